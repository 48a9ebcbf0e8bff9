/-
  Texts of one seat, joined: YArith YSub YDiv.
-/
import Derived.Test.YtdgbplppabalgaaGreatDoorJ22
import Derived.Deep.RegionHeld3
import Derived.Test.YtdgbplppabalgaaGreatDoorJ14
namespace Go.Proofs.YtdgbplppabalgaaGreatDoor
open Go.RowKit

set_option maxHeartbeats 800000 in
theorem intY_any (z : Int) (w : World) (hs : Std w) (h1 : -9223372036854775808 ≤ z) (h2 : z ≤ 9223372036854775807) :
    Calls Tryz.prog 19 #[.int .i64 z] w fun e w' => e = .returned (.string (zS z)) ∧ Below w.heap.size w w' := by
  have HT := Lib.hid (itoaZ z w hs h1 h2)
  clear hs
  go_enter Tryz.func19, Tryz.ntmps19
  go_wp2_with fail
  refine HT.out.mono ?_
  rintro e w1 ⟨rfl, hb1⟩
  have B1 := Lib.hid hb1
  clear hb1
  go_wp2_with fail
  go_ret
  exact ⟨rfl, B1.out⟩
theorem Wf.lim {B : Nat} {w : World} {b : Bool} {o : Option Addr} {c : Nat} {L : List Nat} {z : Int} (h : Wf B w b o c L z) : L.length ≤ c := h.wh.pd.lc
set_option maxHeartbeats 1600000 in
theorem ofWY_any (z : Int) (w : World) (hs : Std w) (h1 : -9223372036854775808 ≤ z) (h2 : z ≤ 9223372036854775807) :
    Calls Tryz.prog 60 #[.int .i64 z] w fun e w' => (∃ (b : Bool) (o : Option Addr) (c : Nat) (L : List Nat), e = .returned (whV b o c L) ∧ Wf w.heap.size w' b o c L z) ∧ Below w.heap.size w w' := by
  have HI := Lib.hid (fun wx hw => intY_any z wx hw h1 h2)
  have HT := Lib.hid (fun wx => toY_any z wx (Nat.le_trans (str_big (a := z.natAbs) (n := 19) (by omega) (by decide)) (by decide)))
  obtain ⟨s, hs2⟩ : ∃ s, s = zS z := ⟨_, rfl⟩
  rw [← hs2] at HI HT
  have HS := Lib.hid hs
  have HR0 := Lib.hid (BxO.new w w.heap.size (Nat.le_refl _) false (.slice none 0 0))
  have HB0 := Lib.hid ((Below.refl w.heap.size w).alloc (Nat.le_refl _) (.cells #[.bool false, .slice none 0 0] 43))
  clear hs hs2
  go_enter Tryz.func60, Tryz.ntmps60
  go_upto_region 1 with fail
  obtain ⟨W0, hW0⟩ : ∃ W0, W0 = w.alloc (.cells #[.bool false, .slice none 0 0] 43) := ⟨_, rfl⟩
  rw [← hW0] at HR0 HB0 ⊢
  have HLT := Lib.hid HR0.out.lt.2
  clear hW0
  go_wp2_with fail
  refine (HI.out _ (HS.out.below HB0.out)).mono ?_
  rintro e w1 ⟨rfl, hb1⟩
  have B1 := Lib.hid (HB0.out.trans (hb1.mono HB0.out.size))
  have R0 := Lib.hid (HR0.out.kept hb1)
  have hl1 := hb1.size
  clear hb1 HR0
  go_wp2_with fail
  refine (HT.out _).mono ?_
  rintro e w2 ⟨⟨V, o, c, M, rfl, hwf⟩, hb2⟩
  have B2 := Lib.hid (B1.out.trans (hb2.mono B1.out.size))
  have R1 := Lib.hid (R0.out.kept hb2)
  have HN := Lib.hid hwf.wh
  have HNW := Lib.hid (show NewO (w.heap.size + 1) o from hwf.new.mono (by have := HLT.out; omega))
  clear hb2 R0 hwf
  try unfold whV
  obtain ⟨m, hm⟩ : ∃ m, m = M.length := ⟨_, rfl⟩
  have HM := Lib.hid hm
  rw [← hm]
  clear hm
  have f0 := R1.out.free 0
  have f1 := R1.out.free 1
  have e0 := R1.out.neg
  have e1 := R1.out.dig
  have Y1 := R1.out.set0 V
  have y1 := Y1.free 1
  have z1 := Y1.dig
  have Y2 := Y1.set1 (.slice o m c)
  have u0 := Y2.neg
  have u1 := Y2.dig
  have HBE := Lib.hid ((B2.out.setCell (p := ⟨w.heap.size, 0, none⟩) (Nat.le_refl _) (.bool V)).setCell (p := ⟨w.heap.size, 1, none⟩) (Nat.le_refl _) (.slice o m c))
  have HWE := Lib.hid ((HN.out.stored (w.heap.size) 0 (.bool V) (HNW.out.ne (by omega))).stored (w.heap.size) 1 (.slice o m c) (HNW.out.ne (by omega)))
  clear Y1 Y2 R1
  go_wp2_with fail
  (try simp only [Exit.inBlock, Exit.then])
  refine bodyPost_ret (v := .agg #[.bool V, .slice o m c]) ?_ rfl ⟨⟨V, o, c, M, by rw [HM.out], HWE.out, HNW.out.mono (by omega)⟩, HBE.out⟩
  rw [results_cell_one rfl]
  go_simp
set_option maxHeartbeats 6400000 in
set_option maxRecDepth 100000 in
theorem addWY_same (b1 : Bool) (a : Option Addr) (ca : Nat) (p : List Nat) (x : Int) (b2 : Bool) (b : Option Addr) (cb : Nat) (q : List Nat) (y : Int) (w : World) (ha : Wh w b1 a ca p x) (hb : Wh w b2 b cb q y) (hpl : p.length ≤ 50000) (hql : q.length ≤ 50000) (hc : (b1 == b2) = true) :
    Calls Tryz.prog 91 #[whV b1 a ca p, whV b2 b cb q] w fun e w' => (∃ (b3 : Bool) (o : Option Addr) (c : Nat) (r : List Nat), e = .returned (whV b3 o c r) ∧ Wf w.heap.size w' b3 o c r (x + y)) ∧ Below w.heap.size w w' := by
  have hab := ha.neg
  have hbb := hb.neg
  have hbe : b1 = b2 := beq_iff_eq.1 hc
  have HVZ := Lib.hid (show pv p + pv q = (x + y).natAbs by
    rw [ha.pcs.val, hb.pcs.val]
    have e : decide (x < 0) = decide (y < 0) := by rw [← hab, ← hbb, hbe]
    by_cases h : x < 0
    · rw [decide_eq_true h] at e; have := of_decide_eq_true e.symm; omega
    · rw [decide_eq_false h] at e; have := of_decide_eq_false e.symm; omega)
  have HZS := Lib.hid (show x + y ≠ 0 → b1 = decide (x + y < 0) from fun _ => by
    have e : decide (x < 0) = decide (y < 0) := by rw [← hab, ← hbb, hbe]
    rw [hab]
    by_cases h : x < 0
    · rw [decide_eq_true h] at e; have := of_decide_eq_true e.symm; rw [decide_eq_true h, decide_eq_true (by omega)]
    · rw [decide_eq_false h] at e; have := of_decide_eq_false e.symm; rw [decide_eq_false h, decide_eq_false (by omega)])
  have HCX := Lib.hid (fun (wx : World) (hx : Below w.heap.size w wx) => (show Calls Tryz.prog 133 #[.slice a p.length ca, .slice b q.length cb] wx fun e w' => ∃ (o : Option Addr) (c : Nat) (r : List Nat), e = .returned (.slice o r.length c) ∧ Pd w' o c r ∧ pv r = pv p + pv q ∧ NewO wx.heap.size o ∧ Below wx.heap.size wx w' from (plusY_any a ca p b cb q wx (ha.pd.below hx) (hb.pd.below hx) (by omega) (by omega)).mono fun e w' ⟨o, c, r, h1, h2, h3, _, h5, h6⟩ => ⟨o, c, r, h1, h2, h3, h5, h6⟩))
  clear hbe
  have HX0 := Bw.new w b1 (.slice a p.length ca) b2 (.slice b q.length cb)
  obtain ⟨z, hz⟩ : ∃ z, z = x + y := ⟨_, rfl⟩
  rw [← hz] at HVZ HZS ⊢
  clear hz
  have HAV := Lib.hid (fun (wx : World) (hx : Below w.heap.size w wx) => aboveY_any a ca p b cb q x.natAbs y.natAbs wx (ha.pd.below hx) (hb.pd.below hx) ha.pcs hb.pcs)
  unfold whV
  obtain ⟨m, hm⟩ : ∃ m, m = p.length := ⟨_, rfl⟩
  obtain ⟨n, hn⟩ : ∃ m, m = q.length := ⟨_, rfl⟩
  rw [← hm, ← hn] at HX0 HAV HCX
  rw [← hm, ← hn]
  clear hm hn ha hb hab hbb
  go_enter Tryz.func91, Tryz.ntmps91
  go_upto_region 1 with fail
  obtain ⟨W0, hW0⟩ : ∃ W0, W0 = ((w.alloc (.cells #[.bool b1, .slice a m ca] 43)).alloc (.cells #[.bool b2, .slice b n cb] 43)).alloc (.cells #[.bool false, .slice none 0 0] 43) := ⟨_, rfl⟩
  rw [← hW0] at HX0 ⊢
  clear hW0
  have HBX := Lib.hid HX0
  have HLT := Lib.hid HX0.lt
  have k1 := HX0.one.neg
  have k2 := HX0.two.neg
  have k3 := HX0.one.dig
  have k4 := HX0.two.dig
  clear HX0
  have HCA := Lib.hid (show ∀ wx, Bw w wx b1 (.slice a m ca) b2 (.slice b n cb) → Calls Tryz.prog 133 #[.slice a m ca, .slice b n cb] wx fun e w' => ∃ (o : Option Addr) (c : Nat) (r : List Nat), e = .returned (.slice o r.length c) ∧ Pd w' o c r ∧ pv r = pv p + pv q ∧ NewO (w.heap.size + 1 + 1 + 1) o ∧ Below wx.heap.size wx w' from fun wx hx => (HCX.out wx hx.below).mono fun e w' ⟨o, c, r, h1, h2, h3, h4, h5⟩ => ⟨o, c, r, h1, h2, h3, h4.mono (by have := hx.lt; omega), h5⟩)
  clear HAV HCX
  go_wp2_with fail
  have Z0 := Lib.hid (HBX.out.drewN 1)
  go_region_held3 (fun W => W.cell? ⟨w.heap.size, 0, none⟩ = some (.bool b1) ∧ W.cell? ⟨w.heap.size, 1, none⟩ = some (.slice a m ca) ∧ W.cell? ⟨w.heap.size + 1, 0, none⟩ = some (.bool b2) ∧ W.cell? ⟨w.heap.size + 1, 1, none⟩ = some (.slice b n cb)) (first | exact ⟨((Z2.out.one.other (p := ⟨w.heap.size + 1 + 1, 0, none⟩) (by show w.heap.size ≠ w.heap.size + 1 + 1; omega) _).other (p := ⟨w.heap.size + 1 + 1, 1, none⟩) (by show w.heap.size ≠ w.heap.size + 1 + 1; omega) _).neg, ((Z2.out.one.other (p := ⟨w.heap.size + 1 + 1, 0, none⟩) (by show w.heap.size ≠ w.heap.size + 1 + 1; omega) _).other (p := ⟨w.heap.size + 1 + 1, 1, none⟩) (by show w.heap.size ≠ w.heap.size + 1 + 1; omega) _).dig, ((Z2.out.two.other (p := ⟨w.heap.size + 1 + 1, 0, none⟩) (by show w.heap.size + 1 ≠ w.heap.size + 1 + 1; omega) _).other (p := ⟨w.heap.size + 1 + 1, 1, none⟩) (by show w.heap.size + 1 ≠ w.heap.size + 1 + 1; omega) _).neg, ((Z2.out.two.other (p := ⟨w.heap.size + 1 + 1, 0, none⟩) (by show w.heap.size + 1 ≠ w.heap.size + 1 + 1; omega) _).other (p := ⟨w.heap.size + 1 + 1, 1, none⟩) (by show w.heap.size + 1 ≠ w.heap.size + 1 + 1; omega) _).dig⟩ | exact ⟨Z2.out.one.neg, Z2.out.one.dig, Z2.out.two.neg, Z2.out.two.dig⟩ | exact ⟨Z1.out.one.neg, Z1.out.one.dig, Z1.out.two.neg, Z1.out.two.dig⟩ | exact ⟨Z0.out.one.neg, Z0.out.one.dig, Z0.out.two.neg, Z0.out.two.dig⟩) (first | (go_at_call 75; have hq1 := HP1.out; refine (trimY_any b1 o1 c1 r1 _ hq1).mono ?_; rintro e w2 ⟨rfl, h2⟩; have Z2 := Lib.hid (Z1.out.to h2); have HWT := Lib.hid ((Wh.trimmed b1 hq1 z HZV.out HZS.out).below h2); have f0 := Z2.out.res.free 0; have f1 := Z2.out.res.free 1; have e0 := Z2.out.res.neg; have e1 := Z2.out.res.dig; have Y1 := Z2.out.res.set0 (b1 && decide (0 < (trimP r1).length)); have y1 := Y1.free 1; have z1 := Y1.dig; have Y2 := Y1.set1 (.slice o1 (trimP r1).length c1); have u0 := Y2.neg; have u1 := Y2.dig; clear Y1 Y2 h2 hq1) | (go_at_call 133; refine (HCA.out _ ?hzz).mono ?_; (case hzz => exact Z0.out); rintro e w1 ⟨o1, c1, r1, rfl, hp1, hv1, hn1, h1⟩; have Z1 := Lib.hid (Z0.out.to h1); have HP1 := Lib.hid hp1; have HZV := Lib.hid (hv1.trans HVZ.out); have HNW := Lib.hid hn1; clear h1 hp1 hv1 hn1))
  all_goals (
    go_wp2_with fail
    (try simp only [Exit.inBlock, Exit.then])
    refine bodyPost_ret (v := .agg #[.bool (b1 && decide (0 < (trimP r1).length)), .slice o1 (trimP r1).length c1]) ?_ rfl ⟨⟨_, o1, c1, trimP r1, rfl, ((HWT.out.stored (w.heap.size + 1 + 1) 0 _ (HNW.out.ne (by have := HLT.out; omega))).stored (w.heap.size + 1 + 1) 1 _ (HNW.out.ne (by have := HLT.out; omega))), HNW.out.mono (by have := HLT.out; omega)⟩, (Z2.out.below.setCell (p := ⟨w.heap.size + 1 + 1, 0, none⟩) (by show w.heap.size ≤ w.heap.size + 1 + 1; omega) _).setCell (p := ⟨w.heap.size + 1 + 1, 1, none⟩) (by show w.heap.size ≤ w.heap.size + 1 + 1; omega) _⟩
    rw [results_cell_one rfl]
    go_simp)
set_option maxHeartbeats 6400000 in
set_option maxRecDepth 100000 in
theorem addWY_ge (b1 : Bool) (a : Option Addr) (ca : Nat) (p : List Nat) (x : Int) (b2 : Bool) (b : Option Addr) (cb : Nat) (q : List Nat) (y : Int) (w : World) (ha : Wh w b1 a ca p x) (hb : Wh w b2 b cb q y) (hpl : p.length ≤ 50000) (_hql : q.length ≤ 50000) (hc : (b1 == b2) = false) (hg : y.natAbs ≤ x.natAbs) :
    Calls Tryz.prog 91 #[whV b1 a ca p, whV b2 b cb q] w fun e w' => (∃ (b3 : Bool) (o : Option Addr) (c : Nat) (r : List Nat), e = .returned (whV b3 o c r) ∧ Wf w.heap.size w' b3 o c r (x + y)) ∧ Below w.heap.size w w' := by
  have hab := ha.neg
  have hbb := hb.neg
  have hne : b1 ≠ b2 := beq_eq_false_iff_ne.1 hc
  have hsg : (x < 0 ∧ ¬ y < 0) ∨ (¬ x < 0 ∧ y < 0) := by
    by_cases h : x < 0 <;> by_cases k : y < 0
    · exact absurd (by rw [hab, hbb, decide_eq_true h, decide_eq_true k]) hne
    · exact .inl ⟨h, k⟩
    · exact .inr ⟨h, k⟩
    · exact absurd (by rw [hab, hbb, decide_eq_false h, decide_eq_false k]) hne
  have HVZ := Lib.hid (show x.natAbs - y.natAbs = (x + y).natAbs by omega)
  have HZS := Lib.hid (show x + y ≠ 0 → b1 = decide (x + y < 0) from fun h0 => by
    rw [hab]
    by_cases h : x < 0
    · rw [decide_eq_true h, decide_eq_true (by omega)]
    · rw [decide_eq_false h, decide_eq_false (by omega)])
  have hcm : decide (cmpN x.natAbs y.natAbs ≥ 0) = true := by
    rcases cmpN_ways x.natAbs y.natAbs with ⟨h, e⟩ | ⟨h, e⟩ | ⟨h, e⟩ <;> rw [e] <;> first | decide | omega
  have HCX := Lib.hid (fun (wx : World) (hx : Below w.heap.size w wx) => (show Calls Tryz.prog 120 #[.slice a p.length ca, .slice b q.length cb] wx fun e w' => ∃ (o : Option Addr) (c : Nat) (r : List Nat), e = .returned (.slice o r.length c) ∧ Pd w' o c r ∧ pv r = x.natAbs - y.natAbs ∧ NewO wx.heap.size o ∧ Below wx.heap.size wx w' from (minusY_any a ca p b cb q x.natAbs y.natAbs wx (ha.pd.below hx) (hb.pd.below hx) ha.pcs hb.pcs (by omega) (by omega)).mono fun e w' ⟨o, c, r, h1, h2, h3, _, h5, h6⟩ => ⟨o, c, r, h1, h2, h3, h5, h6⟩))
  clear hne hsg hg
  have HX0 := Bw.new w b1 (.slice a p.length ca) b2 (.slice b q.length cb)
  obtain ⟨z, hz⟩ : ∃ z, z = x + y := ⟨_, rfl⟩
  rw [← hz] at HVZ HZS ⊢
  clear hz
  have HAV := Lib.hid (fun (wx : World) (hx : Below w.heap.size w wx) => aboveY_any a ca p b cb q x.natAbs y.natAbs wx (ha.pd.below hx) (hb.pd.below hx) ha.pcs hb.pcs)
  unfold whV
  obtain ⟨m, hm⟩ : ∃ m, m = p.length := ⟨_, rfl⟩
  obtain ⟨n, hn⟩ : ∃ m, m = q.length := ⟨_, rfl⟩
  rw [← hm, ← hn] at HX0 HAV HCX
  rw [← hm, ← hn]
  clear hm hn ha hb hab hbb
  go_enter Tryz.func91, Tryz.ntmps91
  go_upto_region 1 with fail
  obtain ⟨W0, hW0⟩ : ∃ W0, W0 = ((w.alloc (.cells #[.bool b1, .slice a m ca] 43)).alloc (.cells #[.bool b2, .slice b n cb] 43)).alloc (.cells #[.bool false, .slice none 0 0] 43) := ⟨_, rfl⟩
  rw [← hW0] at HX0 ⊢
  clear hW0
  have HBX := Lib.hid HX0
  have HLT := Lib.hid HX0.lt
  have k1 := HX0.one.neg
  have k2 := HX0.two.neg
  have k3 := HX0.one.dig
  have k4 := HX0.two.dig
  clear HX0
  have HCA := Lib.hid (show ∀ wx, Bw w wx b1 (.slice a m ca) b2 (.slice b n cb) → Calls Tryz.prog 120 #[.slice a m ca, .slice b n cb] wx fun e w' => ∃ (o : Option Addr) (c : Nat) (r : List Nat), e = .returned (.slice o r.length c) ∧ Pd w' o c r ∧ pv r = x.natAbs - y.natAbs ∧ NewO (w.heap.size + 1 + 1 + 1) o ∧ Below wx.heap.size wx w' from fun wx hx => (HCX.out wx hx.below).mono fun e w' ⟨o, c, r, h1, h2, h3, h4, h5⟩ => ⟨o, c, r, h1, h2, h3, h4.mono (by have := hx.lt; omega), h5⟩)
  obtain ⟨cc, hcc⟩ : ∃ cc, cc = cmpN x.natAbs y.natAbs := ⟨_, rfl⟩
  rw [← hcc] at HAV hcm
  clear HCX hcc
  go_wp2_with fail
  refine (HAV.out _ HBX.out.below).mono ?_
  rintro e wa ⟨rfl, hwa⟩
  have HBZ := Lib.hid (HBX.out.to hwa)
  clear hwa k1 k2 k3 k4 HAV
  have k1 := HBZ.out.one.neg
  have k2 := HBZ.out.two.neg
  have k3 := HBZ.out.one.dig
  have k4 := HBZ.out.two.dig
  go_wp2_with fail
  have Z0 := Lib.hid (HBZ.out.drewN 1)
  go_region_held3 (fun W => W.cell? ⟨w.heap.size, 0, none⟩ = some (.bool b1) ∧ W.cell? ⟨w.heap.size, 1, none⟩ = some (.slice a m ca) ∧ W.cell? ⟨w.heap.size + 1, 0, none⟩ = some (.bool b2) ∧ W.cell? ⟨w.heap.size + 1, 1, none⟩ = some (.slice b n cb)) (first | exact ⟨((Z2.out.one.other (p := ⟨w.heap.size + 1 + 1, 0, none⟩) (by show w.heap.size ≠ w.heap.size + 1 + 1; omega) _).other (p := ⟨w.heap.size + 1 + 1, 1, none⟩) (by show w.heap.size ≠ w.heap.size + 1 + 1; omega) _).neg, ((Z2.out.one.other (p := ⟨w.heap.size + 1 + 1, 0, none⟩) (by show w.heap.size ≠ w.heap.size + 1 + 1; omega) _).other (p := ⟨w.heap.size + 1 + 1, 1, none⟩) (by show w.heap.size ≠ w.heap.size + 1 + 1; omega) _).dig, ((Z2.out.two.other (p := ⟨w.heap.size + 1 + 1, 0, none⟩) (by show w.heap.size + 1 ≠ w.heap.size + 1 + 1; omega) _).other (p := ⟨w.heap.size + 1 + 1, 1, none⟩) (by show w.heap.size + 1 ≠ w.heap.size + 1 + 1; omega) _).neg, ((Z2.out.two.other (p := ⟨w.heap.size + 1 + 1, 0, none⟩) (by show w.heap.size + 1 ≠ w.heap.size + 1 + 1; omega) _).other (p := ⟨w.heap.size + 1 + 1, 1, none⟩) (by show w.heap.size + 1 ≠ w.heap.size + 1 + 1; omega) _).dig⟩ | exact ⟨Z2.out.one.neg, Z2.out.one.dig, Z2.out.two.neg, Z2.out.two.dig⟩ | exact ⟨Z1.out.one.neg, Z1.out.one.dig, Z1.out.two.neg, Z1.out.two.dig⟩ | exact ⟨Z0.out.one.neg, Z0.out.one.dig, Z0.out.two.neg, Z0.out.two.dig⟩) (first | (go_at_call 75; have hq1 := HP1.out; refine (trimY_any b1 o1 c1 r1 _ hq1).mono ?_; rintro e w2 ⟨rfl, h2⟩; have Z2 := Lib.hid (Z1.out.to h2); have HWT := Lib.hid ((Wh.trimmed b1 hq1 z HZV.out HZS.out).below h2); have f0 := Z2.out.res.free 0; have f1 := Z2.out.res.free 1; have e0 := Z2.out.res.neg; have e1 := Z2.out.res.dig; have Y1 := Z2.out.res.set0 (b1 && decide (0 < (trimP r1).length)); have y1 := Y1.free 1; have z1 := Y1.dig; have Y2 := Y1.set1 (.slice o1 (trimP r1).length c1); have u0 := Y2.neg; have u1 := Y2.dig; clear Y1 Y2 h2 hq1) | (go_at_call 120; refine (HCA.out _ ?hzz).mono ?_; (case hzz => exact Z0.out); rintro e w1 ⟨o1, c1, r1, rfl, hp1, hv1, hn1, h1⟩; have Z1 := Lib.hid (Z0.out.to h1); have HP1 := Lib.hid hp1; have HZV := Lib.hid (hv1.trans HVZ.out); have HNW := Lib.hid hn1; clear h1 hp1 hv1 hn1))
  all_goals (
    go_wp2_with fail
    (try simp only [Exit.inBlock, Exit.then])
    refine bodyPost_ret (v := .agg #[.bool (b1 && decide (0 < (trimP r1).length)), .slice o1 (trimP r1).length c1]) ?_ rfl ⟨⟨_, o1, c1, trimP r1, rfl, ((HWT.out.stored (w.heap.size + 1 + 1) 0 _ (HNW.out.ne (by have := HLT.out; omega))).stored (w.heap.size + 1 + 1) 1 _ (HNW.out.ne (by have := HLT.out; omega))), HNW.out.mono (by have := HLT.out; omega)⟩, (Z2.out.below.setCell (p := ⟨w.heap.size + 1 + 1, 0, none⟩) (by show w.heap.size ≤ w.heap.size + 1 + 1; omega) _).setCell (p := ⟨w.heap.size + 1 + 1, 1, none⟩) (by show w.heap.size ≤ w.heap.size + 1 + 1; omega) _⟩
    rw [results_cell_one rfl]
    go_simp)
set_option maxHeartbeats 6400000 in
set_option maxRecDepth 100000 in
theorem addWY_lt (b1 : Bool) (a : Option Addr) (ca : Nat) (p : List Nat) (x : Int) (b2 : Bool) (b : Option Addr) (cb : Nat) (q : List Nat) (y : Int) (w : World) (ha : Wh w b1 a ca p x) (hb : Wh w b2 b cb q y) (_hpl : p.length ≤ 50000) (hql : q.length ≤ 50000) (hc : (b1 == b2) = false) (hg : x.natAbs < y.natAbs) :
    Calls Tryz.prog 91 #[whV b1 a ca p, whV b2 b cb q] w fun e w' => (∃ (b3 : Bool) (o : Option Addr) (c : Nat) (r : List Nat), e = .returned (whV b3 o c r) ∧ Wf w.heap.size w' b3 o c r (x + y)) ∧ Below w.heap.size w w' := by
  have hab := ha.neg
  have hbb := hb.neg
  have hne : b1 ≠ b2 := beq_eq_false_iff_ne.1 hc
  have hsg : (x < 0 ∧ ¬ y < 0) ∨ (¬ x < 0 ∧ y < 0) := by
    by_cases h : x < 0 <;> by_cases k : y < 0
    · exact absurd (by rw [hab, hbb, decide_eq_true h, decide_eq_true k]) hne
    · exact .inl ⟨h, k⟩
    · exact .inr ⟨h, k⟩
    · exact absurd (by rw [hab, hbb, decide_eq_false h, decide_eq_false k]) hne
  have HVZ := Lib.hid (show y.natAbs - x.natAbs = (x + y).natAbs by omega)
  have HZS := Lib.hid (show x + y ≠ 0 → b2 = decide (x + y < 0) from fun h0 => by
    rw [hbb]
    by_cases h : y < 0
    · rw [decide_eq_true h, decide_eq_true (by omega)]
    · rw [decide_eq_false h, decide_eq_false (by omega)])
  have hcm : decide (cmpN x.natAbs y.natAbs ≥ 0) = false := by
    rcases cmpN_ways x.natAbs y.natAbs with ⟨h, e⟩ | ⟨h, e⟩ | ⟨h, e⟩ <;> rw [e] <;> first | decide | omega
  have HCX := Lib.hid (fun (wx : World) (hx : Below w.heap.size w wx) => (show Calls Tryz.prog 120 #[.slice b q.length cb, .slice a p.length ca] wx fun e w' => ∃ (o : Option Addr) (c : Nat) (r : List Nat), e = .returned (.slice o r.length c) ∧ Pd w' o c r ∧ pv r = y.natAbs - x.natAbs ∧ NewO wx.heap.size o ∧ Below wx.heap.size wx w' from (minusY_any b cb q a ca p y.natAbs x.natAbs wx (hb.pd.below hx) (ha.pd.below hx) hb.pcs ha.pcs (by omega) (by omega)).mono fun e w' ⟨o, c, r, h1, h2, h3, _, h5, h6⟩ => ⟨o, c, r, h1, h2, h3, h5, h6⟩))
  clear hne hsg hg
  have HX0 := Bw.new w b1 (.slice a p.length ca) b2 (.slice b q.length cb)
  obtain ⟨z, hz⟩ : ∃ z, z = x + y := ⟨_, rfl⟩
  rw [← hz] at HVZ HZS ⊢
  clear hz
  have HAV := Lib.hid (fun (wx : World) (hx : Below w.heap.size w wx) => aboveY_any a ca p b cb q x.natAbs y.natAbs wx (ha.pd.below hx) (hb.pd.below hx) ha.pcs hb.pcs)
  unfold whV
  obtain ⟨m, hm⟩ : ∃ m, m = p.length := ⟨_, rfl⟩
  obtain ⟨n, hn⟩ : ∃ m, m = q.length := ⟨_, rfl⟩
  rw [← hm, ← hn] at HX0 HAV HCX
  rw [← hm, ← hn]
  clear hm hn ha hb hab hbb
  go_enter Tryz.func91, Tryz.ntmps91
  go_upto_region 1 with fail
  obtain ⟨W0, hW0⟩ : ∃ W0, W0 = ((w.alloc (.cells #[.bool b1, .slice a m ca] 43)).alloc (.cells #[.bool b2, .slice b n cb] 43)).alloc (.cells #[.bool false, .slice none 0 0] 43) := ⟨_, rfl⟩
  rw [← hW0] at HX0 ⊢
  clear hW0
  have HBX := Lib.hid HX0
  have HLT := Lib.hid HX0.lt
  have k1 := HX0.one.neg
  have k2 := HX0.two.neg
  have k3 := HX0.one.dig
  have k4 := HX0.two.dig
  clear HX0
  have HCA := Lib.hid (show ∀ wx, Bw w wx b1 (.slice a m ca) b2 (.slice b n cb) → Calls Tryz.prog 120 #[.slice b n cb, .slice a m ca] wx fun e w' => ∃ (o : Option Addr) (c : Nat) (r : List Nat), e = .returned (.slice o r.length c) ∧ Pd w' o c r ∧ pv r = y.natAbs - x.natAbs ∧ NewO (w.heap.size + 1 + 1 + 1) o ∧ Below wx.heap.size wx w' from fun wx hx => (HCX.out wx hx.below).mono fun e w' ⟨o, c, r, h1, h2, h3, h4, h5⟩ => ⟨o, c, r, h1, h2, h3, h4.mono (by have := hx.lt; omega), h5⟩)
  obtain ⟨cc, hcc⟩ : ∃ cc, cc = cmpN x.natAbs y.natAbs := ⟨_, rfl⟩
  rw [← hcc] at HAV hcm
  clear HCX hcc
  go_wp2_with fail
  refine (HAV.out _ HBX.out.below).mono ?_
  rintro e wa ⟨rfl, hwa⟩
  have HBZ := Lib.hid (HBX.out.to hwa)
  clear hwa k1 k2 k3 k4 HAV
  have k1 := HBZ.out.one.neg
  have k2 := HBZ.out.two.neg
  have k3 := HBZ.out.one.dig
  have k4 := HBZ.out.two.dig
  go_wp2_with fail
  have Z0 := Lib.hid (HBZ.out.drewN 1)
  go_region_held3 (fun W => W.cell? ⟨w.heap.size, 0, none⟩ = some (.bool b1) ∧ W.cell? ⟨w.heap.size, 1, none⟩ = some (.slice a m ca) ∧ W.cell? ⟨w.heap.size + 1, 0, none⟩ = some (.bool b2) ∧ W.cell? ⟨w.heap.size + 1, 1, none⟩ = some (.slice b n cb)) (first | exact ⟨((Z2.out.one.other (p := ⟨w.heap.size + 1 + 1, 0, none⟩) (by show w.heap.size ≠ w.heap.size + 1 + 1; omega) _).other (p := ⟨w.heap.size + 1 + 1, 1, none⟩) (by show w.heap.size ≠ w.heap.size + 1 + 1; omega) _).neg, ((Z2.out.one.other (p := ⟨w.heap.size + 1 + 1, 0, none⟩) (by show w.heap.size ≠ w.heap.size + 1 + 1; omega) _).other (p := ⟨w.heap.size + 1 + 1, 1, none⟩) (by show w.heap.size ≠ w.heap.size + 1 + 1; omega) _).dig, ((Z2.out.two.other (p := ⟨w.heap.size + 1 + 1, 0, none⟩) (by show w.heap.size + 1 ≠ w.heap.size + 1 + 1; omega) _).other (p := ⟨w.heap.size + 1 + 1, 1, none⟩) (by show w.heap.size + 1 ≠ w.heap.size + 1 + 1; omega) _).neg, ((Z2.out.two.other (p := ⟨w.heap.size + 1 + 1, 0, none⟩) (by show w.heap.size + 1 ≠ w.heap.size + 1 + 1; omega) _).other (p := ⟨w.heap.size + 1 + 1, 1, none⟩) (by show w.heap.size + 1 ≠ w.heap.size + 1 + 1; omega) _).dig⟩ | exact ⟨Z2.out.one.neg, Z2.out.one.dig, Z2.out.two.neg, Z2.out.two.dig⟩ | exact ⟨Z1.out.one.neg, Z1.out.one.dig, Z1.out.two.neg, Z1.out.two.dig⟩ | exact ⟨Z0.out.one.neg, Z0.out.one.dig, Z0.out.two.neg, Z0.out.two.dig⟩) (first | (go_at_call 75; have hq1 := HP1.out; refine (trimY_any b2 o1 c1 r1 _ hq1).mono ?_; rintro e w2 ⟨rfl, h2⟩; have Z2 := Lib.hid (Z1.out.to h2); have HWT := Lib.hid ((Wh.trimmed b2 hq1 z HZV.out HZS.out).below h2); have f0 := Z2.out.res.free 0; have f1 := Z2.out.res.free 1; have e0 := Z2.out.res.neg; have e1 := Z2.out.res.dig; have Y1 := Z2.out.res.set0 (b2 && decide (0 < (trimP r1).length)); have y1 := Y1.free 1; have z1 := Y1.dig; have Y2 := Y1.set1 (.slice o1 (trimP r1).length c1); have u0 := Y2.neg; have u1 := Y2.dig; clear Y1 Y2 h2 hq1) | (go_at_call 120; refine (HCA.out _ ?hzz).mono ?_; (case hzz => exact Z0.out); rintro e w1 ⟨o1, c1, r1, rfl, hp1, hv1, hn1, h1⟩; have Z1 := Lib.hid (Z0.out.to h1); have HP1 := Lib.hid hp1; have HZV := Lib.hid (hv1.trans HVZ.out); have HNW := Lib.hid hn1; clear h1 hp1 hv1 hn1))
  all_goals (
    go_wp2_with fail
    (try simp only [Exit.inBlock, Exit.then])
    refine bodyPost_ret (v := .agg #[.bool (b2 && decide (0 < (trimP r1).length)), .slice o1 (trimP r1).length c1]) ?_ rfl ⟨⟨_, o1, c1, trimP r1, rfl, ((HWT.out.stored (w.heap.size + 1 + 1) 0 _ (HNW.out.ne (by have := HLT.out; omega))).stored (w.heap.size + 1 + 1) 1 _ (HNW.out.ne (by have := HLT.out; omega))), HNW.out.mono (by have := HLT.out; omega)⟩, (Z2.out.below.setCell (p := ⟨w.heap.size + 1 + 1, 0, none⟩) (by show w.heap.size ≤ w.heap.size + 1 + 1; omega) _).setCell (p := ⟨w.heap.size + 1 + 1, 1, none⟩) (by show w.heap.size ≤ w.heap.size + 1 + 1; omega) _⟩
    rw [results_cell_one rfl]
    go_simp)
theorem addWY_any (b1 : Bool) (a : Option Addr) (ca : Nat) (p : List Nat) (x : Int) (b2 : Bool) (b : Option Addr) (cb : Nat) (q : List Nat) (y : Int) (w : World) (ha : Wh w b1 a ca p x) (hb : Wh w b2 b cb q y) (hpl : p.length ≤ 50000) (hql : q.length ≤ 50000) :
    Calls Tryz.prog 91 #[whV b1 a ca p, whV b2 b cb q] w fun e w' => (∃ (b3 : Bool) (o : Option Addr) (c : Nat) (r : List Nat), e = .returned (whV b3 o c r) ∧ Wf w.heap.size w' b3 o c r (x + y)) ∧ Below w.heap.size w w' := by
  cases hc : (b1 == b2) with
  | true => exact addWY_same b1 a ca p x b2 b cb q y w ha hb hpl hql hc
  | false =>
    by_cases hg : y.natAbs ≤ x.natAbs
    · exact addWY_ge b1 a ca p x b2 b cb q y w ha hb hpl hql hc hg
    · exact addWY_lt b1 a ca p x b2 b cb q y w ha hb hpl hql hc (by omega)
end Go.Proofs.YtdgbplppabalgaaGreatDoor

namespace Go.Proofs.YtdgbplppabalgaaGreatDoor
open Go.RowKit

theorem Wh.len_le {w w' : World} {b b' : Bool} {o o' : Option Addr} {c c' : Nat} {L L' : List Nat} {z z' : Int} (h : Wh w b o c L z) (h' : Wh w' b' o' c' L' z') (hz : z.natAbs ≤ z'.natAbs) : L.length ≤ L'.length := Pcs.len_mono h'.pcs h.pcs hz
set_option maxHeartbeats 6400000 in
set_option maxRecDepth 100000 in
theorem subWY_any (b1 : Bool) (a : Option Addr) (ca : Nat) (p : List Nat) (x : Int) (b2 : Bool) (b : Option Addr) (cb : Nat) (q : List Nat) (y : Int) (w : World) (ha : Wh w b1 a ca p x) (hb : Wh w b2 b cb q y) (hpl : p.length ≤ 50000) (hql : q.length ≤ 50000) :
    Calls Tryz.prog 141 #[whV b1 a ca p, whV b2 b cb q] w fun e w' => (∃ (b3 : Bool) (o : Option Addr) (c : Nat) (r : List Nat), e = .returned (whV b3 o c r) ∧ Wf w.heap.size w' b3 o c r (x - y)) ∧ Below w.heap.size w w' := by
  have HX0 := Bw.new w b1 (.slice a p.length ca) b2 (.slice b q.length cb)
  have HNG := Lib.hid (fun (wx : World) (hx : Below w.heap.size w wx) => negWY_any b2 b cb q y wx (hb.below hx))
  have HAD := Lib.hid (fun (wx : World) (hx : Below w.heap.size w wx) (b3 : Bool) (r : List Nat) (hr : Wh wx b3 b cb r (-y)) => addWY_any b1 a ca p x b3 b cb r (-y) wx (ha.below hx) hr hpl (Nat.le_trans (hr.len_le hb (by rw [Int.natAbs_neg]; exact Nat.le_refl _)) hql))
  rw [show x + -y = x - y by omega] at HAD
  unfold whV at HNG HAD
  unfold whV
  obtain ⟨m, hm⟩ : ∃ m, m = p.length := ⟨_, rfl⟩
  obtain ⟨n, hn⟩ : ∃ m, m = q.length := ⟨_, rfl⟩
  rw [← hm] at HX0 HAD
  rw [← hn] at HX0 HNG
  rw [← hm, ← hn]
  clear hm hn ha hb hpl hql
  go_enter Tryz.func141, Tryz.ntmps141
  go_upto_region 1 with fail
  obtain ⟨W0, hW0⟩ : ∃ W0, W0 = ((w.alloc (.cells #[.bool b1, .slice a m ca] 43)).alloc (.cells #[.bool b2, .slice b n cb] 43)).alloc (.cells #[.bool false, .slice none 0 0] 43) := ⟨_, rfl⟩
  rw [← hW0] at HX0 ⊢
  clear hW0
  have HLT := Lib.hid HX0.lt
  have Z0 := Lib.hid (HX0.drewN 1)
  clear HX0
  go_region_held3 (fun W => W.cell? ⟨w.heap.size, 0, none⟩ = some (.bool b1) ∧ W.cell? ⟨w.heap.size, 1, none⟩ = some (.slice a m ca) ∧ W.cell? ⟨w.heap.size + 1, 0, none⟩ = some (.bool b2) ∧ W.cell? ⟨w.heap.size + 1, 1, none⟩ = some (.slice b n cb)) (first | exact ⟨((Z2.out.one.other (p := ⟨w.heap.size + 1 + 1, 0, none⟩) (by show w.heap.size ≠ w.heap.size + 1 + 1; omega) _).other (p := ⟨w.heap.size + 1 + 1, 1, none⟩) (by show w.heap.size ≠ w.heap.size + 1 + 1; omega) _).neg, ((Z2.out.one.other (p := ⟨w.heap.size + 1 + 1, 0, none⟩) (by show w.heap.size ≠ w.heap.size + 1 + 1; omega) _).other (p := ⟨w.heap.size + 1 + 1, 1, none⟩) (by show w.heap.size ≠ w.heap.size + 1 + 1; omega) _).dig, ((Z2.out.two.other (p := ⟨w.heap.size + 1 + 1, 0, none⟩) (by show w.heap.size + 1 ≠ w.heap.size + 1 + 1; omega) _).other (p := ⟨w.heap.size + 1 + 1, 1, none⟩) (by show w.heap.size + 1 ≠ w.heap.size + 1 + 1; omega) _).neg, ((Z2.out.two.other (p := ⟨w.heap.size + 1 + 1, 0, none⟩) (by show w.heap.size + 1 ≠ w.heap.size + 1 + 1; omega) _).other (p := ⟨w.heap.size + 1 + 1, 1, none⟩) (by show w.heap.size + 1 ≠ w.heap.size + 1 + 1; omega) _).dig⟩ | exact ⟨Z2.out.one.neg, Z2.out.one.dig, Z2.out.two.neg, Z2.out.two.dig⟩ | exact ⟨Z1.out.one.neg, Z1.out.one.dig, Z1.out.two.neg, Z1.out.two.dig⟩ | exact ⟨Z0.out.one.neg, Z0.out.one.dig, Z0.out.two.neg, Z0.out.two.dig⟩) (first | (go_at_call 91; refine (HAD.out _ ?hzz b3 r ?hyy).mono ?_; (case hzz => exact Z1.out.below); (case hyy => exact HR1.out); rintro e w2 ⟨⟨b4, o4, c4, r4, rfl, hwf⟩, h2⟩; have HLS := Lib.hid h2.size; have Z2 := Lib.hid (Z1.out.to h2); have HWT := Lib.hid hwf; have f0 := Z2.out.res.free 0; have f1 := Z2.out.res.free 1; have e0 := Z2.out.res.neg; have e1 := Z2.out.res.dig; have Y1 := Z2.out.res.set0 b4; have y1 := Y1.free 1; have z1 := Y1.dig; have Y2 := Y1.set1 (.slice o4 r4.length c4); have u0 := Y2.neg; have u1 := Y2.dig; clear Y1 Y2 h2 hwf) | (go_at_call 53; refine (HNG.out _ ?hzz).mono ?_; (case hzz => exact Z0.out.below); rintro e w1 ⟨⟨b3, r, rfl, hr⟩, h1⟩; have Z1 := Lib.hid (Z0.out.to h1); have HR1 := Lib.hid hr; clear h1 hr))
  all_goals (
    go_wp2_with fail
    (try simp only [Exit.inBlock, Exit.then])
    refine bodyPost_ret (v := .agg #[.bool b4, .slice o4 r4.length c4]) ?_ rfl ⟨⟨b4, o4, c4, r4, rfl, ((HWT.out.mono (show w.heap.size + 1 + 1 + 1 ≤ w1.heap.size by have := Z1.out.lt; omega)).stored 0 _ (by omega)).stored 1 _ (by omega) |>.mono (by omega)⟩, (Z2.out.below.setCell (p := ⟨w.heap.size + 1 + 1, 0, none⟩) (by show w.heap.size ≤ w.heap.size + 1 + 1; omega) _).setCell (p := ⟨w.heap.size + 1 + 1, 1, none⟩) (by show w.heap.size ≤ w.heap.size + 1 + 1; omega) _⟩
    rw [results_cell_one rfl]
    go_simp)
/-- two boxes -/
structure Bv (w W : World) (b1 : Bool) (v1 : Value) (b2 : Bool) (v2 : Value) : Prop where
  below : Below w.heap.size w W
  one : BxO W w.heap.size w.heap.size b1 v1
  two : BxO W w.heap.size (w.heap.size + 1) b2 v2
theorem Bv.to {w W W' : World} {b1 : Bool} {v1 : Value} {b2 : Bool} {v2 : Value} (h : Bv w W b1 v1 b2 v2) (hb : Below W.heap.size W W') : Bv w W' b1 v1 b2 v2 :=
  ⟨h.below.trans (hb.mono h.below.size), h.one.kept hb, h.two.kept hb⟩
theorem Bv.new (w : World) (b1 : Bool) (v1 : Value) (b2 : Bool) (v2 : Value) : Bv w ((w.alloc (.cells #[.bool b1, v1] 43)).alloc (.cells #[.bool b2, v2] 43)) b1 v1 b2 v2 := by
  have h1 := BxO.new (w.alloc (.cells #[.bool b1, v1] 43)) w.heap.size (by rw [push_size]; omega) b2 v2
  rw [push_size] at h1
  exact ⟨((Below.refl _ w).alloc (Nat.le_refl _) _).alloc (by rw [push_size]; omega) _, (BxO.new w w.heap.size (Nat.le_refl _) b1 v1).alloc _, h1⟩
set_option maxHeartbeats 1600000 in
theorem cmpWY_any (b1 : Bool) (a : Option Addr) (ca : Nat) (p : List Nat) (x : Int) (b2 : Bool) (b : Option Addr) (cb : Nat) (q : List Nat) (y : Int) (w : World) (ha : Wh w b1 a ca p x) (hb : Wh w b2 b cb q y) (hpl : p.length ≤ 50000) (hql : q.length ≤ 50000) :
    Calls Tryz.prog 101 #[whV b1 a ca p, whV b2 b cb q] w fun e w' => e = .returned (.int .i64 (cmpZ x y)) ∧ Below w.heap.size w w' := by
  have HX0 := Bv.new w b1 (.slice a p.length ca) b2 (.slice b q.length cb)
  have HSB := Lib.hid (fun (wx : World) (hx : Below w.heap.size w wx) => subWY_any b1 a ca p x b2 b cb q y wx (ha.below hx) (hb.below hx) hpl hql)
  have HCZ := Lib.hid (cmpZ_sgn x y)
  unfold whV at HSB
  unfold whV
  obtain ⟨m, hm⟩ : ∃ m, m = p.length := ⟨_, rfl⟩
  obtain ⟨n, hn⟩ : ∃ m, m = q.length := ⟨_, rfl⟩
  rw [← hm, ← hn] at HX0 HSB
  rw [← hm, ← hn]
  clear hm hn ha hb hpl hql
  go_enter Tryz.func101, Tryz.ntmps101
  go_upto_region 1 with fail
  obtain ⟨W0, hW0⟩ : ∃ W0, W0 = (w.alloc (.cells #[.bool b1, .slice a m ca] 43)).alloc (.cells #[.bool b2, .slice b n cb] 43) := ⟨_, rfl⟩
  rw [← hW0] at HX0 ⊢
  clear hW0
  have k1 := HX0.one.neg
  have k2 := HX0.two.neg
  have k3 := HX0.one.dig
  have k4 := HX0.two.dig
  have B0 := Lib.hid HX0.below
  clear HX0
  go_wp2_with fail
  refine (HSB.out _ B0.out).mono ?_
  rintro e w1 ⟨⟨b3, o3, c3, r3, rfl, hwf⟩, h1⟩
  have B1 := Lib.hid (B0.out.trans (h1.mono B0.out.size))
  have HSG := Lib.hid (signWY_any b3 o3 c3 r3 (x - y) w1 hwf.wh)
  rw [← HCZ.out] at HSG
  clear h1 hwf
  try unfold whV
  go_wp2_with fail
  refine HSG.out.mono ?_
  rintro e w2 ⟨rfl, h2⟩
  have B2 := Lib.hid (B1.out.trans (h2.mono B1.out.size))
  clear h2
  go_wp2_with fail
  go_ret
  exact ⟨rfl, B2.out⟩
end Go.Proofs.YtdgbplppabalgaaGreatDoor

namespace Go.Proofs.YtdgbplppabalgaaGreatDoor
open Go.RowKit

/-- append of whatever slice of digits to a literal of one digit -/
theorem ap_cons {wr : World} {ops : Array Oper} {rest : List Oper} {o : Oper} {a : Act} {Q : Exit → Act → World → Prop} (hgd : o.guard = none) (s x : Operand)
    (ho : o.op = .call { callee := .builtin .append, args := #[s, x], argTypes := #[41, 41] }) (u : Nat) (R : List Nat) (A : Option Addr) (c : Nat) (hp : Pd wr A c R)
    (hs : a.eval s = .slice (some ⟨wr.heap.size, 0, none⟩) 1 1) (hx : a.eval x = .slice A R.length c) (hlen : R.length ≤ 1000000)
    (h : ∀ gn cn w', Ow w' wr.heap.size (some ⟨gn, 0, none⟩) cn (u :: R) → (wr.alloc (.cells #[.int .i64 (u : Int)] 3)).grownBy w' (some wr.heap.size) → wpList Tryz.prog ops Q rest (a.put o.dst (.slice (some ⟨gn, 0, none⟩) (1 + R.length) cn)) w') :
    wpList Tryz.prog ops Q (o :: rest) a (wr.alloc (.cells #[.int .i64 (u : Int)] 3)) := by
  obtain ⟨i0, hi, hz0, hz1, hz2⟩ := info_parts infoZ
  rcases hp.cell with ⟨_, hR, _⟩ | ⟨gr, hgr, hgl, hcell⟩
  · subst hR
    refine ap_more hgd s x 41 ho 3 i0 Tryz.underlying41 hi wr.heap.size A c hs hx ?_
    exact h wr.heap.size 1 _ (own_one wr wr.heap.size (Nat.le_refl _) (u : Int)) ⟨rfl, rfl, rfl, Nat.le_refl _, fun _ _ _ => rfl⟩
  · subst hgr
    refine wpList_append_own _ hgd s x 41 ho wr.heap.size 3 i0 (.int .i64 0) 1 8 Tryz.underlying41 hi hz0 hz1 hz2 rfl (by decide) _ _ _ hs (own_one wr wr.heap.size (Nat.le_refl _) (u : Int)) ⟨gr, 0, none⟩ R.length c (cI R) hx (by rw [cI_len, Nat.mul_one]) (src_cellsZ hgl hcell (.cells #[.int .i64 (u : Int)] 3)) (ones_cI R) (by unfold maxLen; omega) (by omega) (by rw [push_size]; omega) ?_
    intro v' w2 hown' hgrow _
    obtain ⟨gn, cn, rfl⟩ := own_some hown' (by omega)
    refine h gn cn w2 ?_ hgrow
    unfold Ow
    rw [show (u :: R).length = 1 + R.length by rw [List.length_cons]; omega]
    exact hown'
theorem set_zero {L : List Nat} {j : Nat} (hj : j < L.length) (h : L[j] = 0) : L.set j 0 = L := by
  apply List.ext_getElem (by rw [List.length_set])
  intro i h1 h2
  by_cases q : j = i
  · subst q; rw [List.getElem_set_self]; exact h.symm
  · rw [List.getElem_set_ne q]
theorem pcs_one {q : List Nat} {y : Nat} (h : Pcs q y) (h0 : 0 < y) (h1 : y < 1000000000) : q = [y] := by
  have h2 := (Pcs.len_mono (p := [y]) (q := q) ⟨pv_one y, fun x hx => by simp at hx; omega, by unfold Go.Proofs.YtdgbplppabalgaaGreatDoor.top; simp; omega⟩ h (Nat.le_refl _))
  cases q with
  | nil => have := h.val; have e : (0 : Nat) = y := this; omega
  | cons a l =>
    have hl : l = [] := by cases l with
      | nil => rfl
      | cons c d => simp at h2
    subst hl
    have := h.val
    rw [pv_one] at this; rw [this]
theorem len_one {q : List Nat} {y : Nat} (h : Pcs q y) (h1 : q.length = 1) : q = [y] ∧ y < 1000000000 ∧ 0 < y := by
  cases q with
  | nil => cases h1
  | cons a l =>
    have hl : l = [] := by cases l with
      | nil => rfl
      | cons c d => simp at h1
    subst hl
    have := h.val
    rw [pv_one] at this; subst this
    refine ⟨rfl, h.lt a (by simp), ?_⟩
    have ht := h.top
    unfold Go.Proofs.YtdgbplppabalgaaGreatDoor.top at ht
    simp at ht; omega
/-- the head of the division's loop: what lies below is 0 -/
structure Dw (p L : List Nat) (m k y r : Nat) : Prop where
  dv : DvZ p L m k y r
  low : ∀ t (h : t < L.length), t < k → L[t] = 0
theorem Dw.step {p L : List Nat} {m j y r : Nat} (h : Dw p L m (j + 1) y r) (hm : p.length = m) (hj : j < m) (hu : p.getD j 0 < 1000000000) :
    Dw p (L.set j ((p.getD j 0 + 1000000000 * r) / y)) m j y ((p.getD j 0 + 1000000000 * r) - y * ((p.getD j 0 + 1000000000 * r) / y)) :=
  ⟨h.dv.step hm hj hu, fun t ht hk => by rw [List.getElem_set_ne (by omega)]; exact h.low t (by rw [List.length_set] at ht; exact ht) (by omega)⟩
set_option maxHeartbeats 12800000 in
set_option maxRecDepth 100000 in
theorem divideY_any (a : Option Addr) (ca : Nat) (p : List Nat) (b : Option Addr) (cb : Nat) (q : List Nat) (x y : Nat) (w : World) (ha : Pd w a ca p) (hb : Pd w b cb q) (hp : Pcs p x) (hq : Pcs q y) (hy : 0 < y) (hpl : p.length ≤ 50000) (hql : q.length ≤ 40000) :
    Calls Tryz.prog 74 #[.slice a p.length ca, .slice b q.length cb] w fun e w' => (∃ (o : Option Addr) (c : Nat) (r : List Nat) (o2 : Option Addr) (c2 : Nat) (r2 : List Nat), e = .returned (.tuple #[.slice o r.length c, .slice o2 r2.length c2]) ∧ Pd w' o c r ∧ Pcs r (x / y) ∧ NewO w.heap.size o ∧ Pd w' o2 c2 r2 ∧ Pcs r2 (x % y) ∧ NewO w.heap.size o2) ∧ Below w.heap.size w w' := by
  obtain ⟨i0, hi, hz0, hz1, hz2⟩ := info_parts infoZ
  have h1 := ha.lc
  have h2 := ha.lim
  have h3 := hb.lc
  have h4 := hb.lim
  have HPA := Lib.hid (fun (wx : World) (hw : Below w.heap.size w wx) i hi => (ha.below hw).at i hi)
  have HQB := Lib.hid (fun (wx : World) (hw : Below w.heap.size w wx) => hb.below hw)
  have HQ := Lib.hid hq
  have HV : Hid (lt9 p ∧ pv p = x) := ⟨hp.lt, hp.val⟩
  have HY := Lib.hid hy
  have HTIM := Lib.hid (fun (wx : World) (d : Nat) (hd : d < 1000000000) (hw : Below w.heap.size w wx) => timesY_any b cb q y d wx (hb.below hw) hq hd (by omega))
  have hfd := fieldY
  clear ha hb hp hq
  obtain ⟨m, hm⟩ : ∃ m, m = p.length := ⟨_, rfl⟩
  obtain ⟨n, hn⟩ : ∃ m, m = q.length := ⟨_, rfl⟩
  have HM := Lib.hid hm
  have HN := Lib.hid hn
  rw [← hm] at h1 hpl HPA ⊢
  rw [← hn] at h3 hql HTIM ⊢
  clear hm hn
  go_enter Tryz.func74, Tryz.ntmps74
  go_wp2_with (at_make; refine wpList_make_full _ rfl _ _ 41 rfl w.heap.size 3 i0 (.int .i64 0) 1 Tryz.underlying41 hi hz0 hz1 .i64 .i64 _ _ m rfl rfl (by omega) (by omega) (by rw [hz2]; omega) (by unfold maxLen; omega) (Nat.le_refl _) ?_; intro w0 hown0 hgrow0)
  have hbel0 : Below w.heap.size w w0 := (Below.refl _ _).grown hgrow0 (Nat.le_refl _) (by intro k hk; cases hk)
  have HB0 := Lib.hid hbel0
  have HR0 := Lib.hid (Ow.made hown0)
  clear hown0 hgrow0 hbel0
  go_wp2_with fail
  go_loopw [5, 6, 7, 8, 9] (fun rv iv _ _ _ wr => ∃ (E : Int) (k r : Nat) (L R : List Nat) (o : Option Addr) (c : Nat), rv = .slice o R.length c ∧ iv = .int .i64 E ∧ -1 ≤ E ∧ E < m ∧ R.length ≤ n ∧ Hid (E = (k : Int) - 1 ∧ Dw p L m k y r ∧ Pcs R r ∧ Pd wr o c R ∧ NewO (w.heap.size + 1) o) ∧ Hid (Ow wr w.heap.size (some ⟨w.heap.size, 0, none⟩) m L) ∧ Hid (Below w.heap.size w wr)) (fun _ iv _ _ _ _ => (intOf iv + 1).toNat)
  case atStart => exact ⟨_, m, 0, List.replicate m 0, [], none, 0, rfl, rfl, by omega, by omega, Nat.zero_le _, ⟨rfl, ⟨⟨by simp, lt9_replicate _, by rw [List.drop_of_length_le (by have := HM.out; omega), List.drop_of_length_le (by simp)]; simp [pv], HY.out⟩, fun t ht _ => by simp⟩, Pcs.nil, ⟨Nat.le_refl _, by decide, by simp [lt9], .inl ⟨rfl, rfl, rfl⟩⟩, NewO.no _⟩, HR0, HB0⟩
  case round =>
    obtain ⟨E, k, r, L, R, o, c, rfl, rfl, hE1, hE2, hRn, HI, HO, HB⟩ := hrel
    by_cases hk0 : k = 0
    · have hE : E = -1 := by have := HI.out.1; omega
      subst hE
      have hdv := HI.out.2.1.dv
      rw [hk0] at hdv
      have heq := hdv.eq
      rw [List.drop_zero, List.drop_zero, HV.out.2] at heq
      have hx1 : x / y = pv L := by
        rw [heq, Nat.mul_comm, Nat.add_comm]
        rw [Nat.add_mul_div_left _ _ HY.out, Nat.div_eq_of_lt hdv.lt, Nat.zero_add]
      have hx2 : x % y = r := by
        rw [heq, Nat.mul_comm, Nat.add_comm, Nat.add_mul_mod_self_left, Nat.mod_eq_of_lt hdv.lt]
      have hpd := HO.out.pd hdv.nine
      have HPC := Lib.hid (show Pcs (trimP L) (x / y) by rw [hx1]; exact Pcs.of_trim hdv.nine)
      have HR2 := Lib.hid (show Pcs R (x % y) by rw [hx2]; exact HI.out.2.2.1)
      have hT := trimY_any false (some ⟨w.heap.size, 0, none⟩) m L wr hpd
      unfold whV at hT
      rw [hdv.len] at hT
      have HT := Lib.hid hT
      have HPD := Lib.hid hpd.trim
      have HRD := Lib.hid HI.out.2.2.2.1
      have HRN := Lib.hid (HI.out.2.2.2.2.mono (show w.heap.size ≤ w.heap.size + 1 by omega))
      have HQN := Lib.hid (show NewO w.heap.size (some ⟨w.heap.size, 0, none⟩) from HO.out.newO)
      clear heq hx1 hx2 hpd hT hdv HI hk0
      go_wp2_with fail
      refine HT.out.mono ?_
      rintro e w' ⟨rfl, h5⟩
      have B5 := Lib.hid (HB.out.trans (h5.mono HB.out.size))
      have P5 := Lib.hid (HPD.out.below h5)
      have R5 := Lib.hid (HRD.out.below h5)
      clear h5
      go_wp2_with fail
      go_ret2
      exact ⟨⟨_, _, trimP L, o, c, R, rfl, P5.out, HPC.out, HQN.out, R5.out, HR2.out, HRN.out⟩, B5.out⟩
    · obtain ⟨j, rfl⟩ : ∃ j, k = j + 1 := ⟨k - 1, by omega⟩
      obtain rfl : E = (j : Int) := by have := HI.out.1; omega
      have hjm : j < m := by omega
      obtain ⟨g, rfl, hcj⟩ := HPA.out wr HB.out j hjm
      have hu9 := getD_lt HV.out.1 j
      have HST := Lib.hid (HI.out.2.1.step HM.out.symm hjm hu9)
      have hql2 := quot_lt hu9 HI.out.2.1.dv.lt
      have HRP := Lib.hid HI.out.2.2.1
      have HRD := Lib.hid HI.out.2.2.2.1
      have hrl := HRD.out.lc
      have hrm := HRD.out.lim
      have HLZ := Lib.hid (show ∀ (h : j < L.length), L[j] = 0 from fun h => HI.out.2.1.low j h (by omega))
      have HLL := Lib.hid HI.out.2.1.dv.len
      obtain ⟨u, hu⟩ : ∃ u, u = p.getD j 0 := ⟨_, rfl⟩
      rw [← hu] at hcj hu9 HST hql2
      obtain ⟨V, hV⟩ : ∃ V, V = u + 1000000000 * r := ⟨_, rfl⟩
      rw [← hV] at HST hql2
      have HPV := Lib.hid (show lt9 (u :: R) ∧ pv (u :: R) = V from ⟨fun z hz => by
          rcases List.mem_cons.1 hz with h | h
          · rw [h]; exact hu9
          · exact HRP.out.lt z h, by rw [pv_cons, HRP.out.val, hV]⟩)
      have HQS := Lib.hid (show ∀ t, (y * t ≤ V → t ≤ V / y) ∧ (t ≤ V / y → y * t ≤ V) from fun t => ⟨fun h => by rw [Nat.le_div_iff_mul_le HY.out, Nat.mul_comm]; exact h, fun h => by rw [Nat.le_div_iff_mul_le HY.out, Nat.mul_comm] at h; exact h⟩)
      have hbs := HB.out.size
      clear hu hV hk0 HI
      go_wp2_with (at_builtin; refine ap_cons rfl _ _ rfl u R o c HRD.out rfl rfl (by omega) ?_)
      intro gn cn w2 how hgrow
      have hbel2 : Below w.heap.size w w2 := (HB.out.alloc hbs _).grown hgrow (by rw [push_size]; omega) (by intro t ht; injection ht with ht; omega)
      have hwlt := (World.ownsRow.lt HO.out w.heap.size rfl).2
      have hno : Ow w2 w.heap.size (some ⟨w.heap.size, 0, none⟩) m L := World.ownsRow.kept (World.ownsRow.alloc HO.out _) hgrow (.inr (by
        intro hh
        have h6 : w.heap.size = wr.heap.size := by simpa [Value.ownBlock] using hh
        omega))
      have HNE := Lib.hid (show NewO (w.heap.size + 1) (some ⟨gn, 0, none⟩) from how.newO.mono (by omega))
      have HLP := Lib.hid (how.pd HPV.out.1)
      have hTT := trimY_any false (some ⟨gn, 0, none⟩) cn (u :: R) w2 HLP.out
      unfold whV at hTT
      have e1 : (u :: R).length = 1 + R.length := by rw [List.length_cons]; omega
      rw [e1] at hTT
      have HTT := Lib.hid hTT
      have HNP := Lib.hid HLP.out.trim
      have HNB := Lib.hid hbel2
      have HNO := Lib.hid hno
      have HT1 := Lib.hid (show Pcs (trimP (u :: R)) V by rw [← HPV.out.2]; exact Pcs.of_trim HPV.out.1)
      clear hgrow how hbel2 hno hTT e1 hwlt
      go_wp2_with fail
      refine HTT.out.mono ?_
      rintro e w3 ⟨rfl, hw3⟩
      have HNB3 := Lib.hid (HNB.out.trans (hw3.mono HNB.out.size))
      have HNO3 := Lib.hid (HNO.out.below hw3)
      have HNP3 := Lib.hid (HNP.out.below hw3)
      obtain ⟨T, hT⟩ : ∃ T, T = trimP (u :: R) := ⟨_, rfl⟩
      rw [← hT] at HNP3 HT1 ⊢
      obtain ⟨o1, ho1⟩ : ∃ o1 : Option Addr, o1 = some ⟨gn, 0, none⟩ := ⟨_, rfl⟩
      rw [← ho1] at HNP3 HNE ⊢
      clear hw3 hT ho1 HTT HNP HNB HNO HRD HRP HPV HO HB hbs HLP hcj
      obtain ⟨c1, hc1⟩ : ∃ c1, c1 = cn := ⟨_, rfl⟩
      rw [← hc1] at HNP3 ⊢
      clear hc1
      have htl : T.length ≤ n + 1 := by
        have hlt := pv_lt q HQ.out.lt
        rw [HQ.out.val, ← HN.out] at hlt
        have hVb : V < y * 1000000000 := by
          apply Nat.lt_of_not_le; intro hh
          have := (HQS.out 1000000000).1 hh; omega
        refine HT1.out.len_of_lt ?_
        rw [Nat.pow_succ]
        exact Nat.lt_of_lt_of_le hVb (Nat.mul_le_mul_right _ (Nat.le_of_lt hlt))
      have HTS := Lib.hid (show V < y → T.length ≤ n from fun h => by rw [HN.out]; exact HQ.out.len_mono HT1.out (Nat.le_of_lt h))
      obtain ⟨Qs, hQs⟩ : ∃ Q, Q = V / y := ⟨_, rfl⟩
      rw [← hQs] at HST hql2 HQS
      have HQE := Lib.hid hQs
      have hab := aboveY_any o1 c1 T b cb q V y w3 HNP3.out (HQB.out _ HNB3.out) HT1.out HQ.out
      rw [← HN.out] at hab
      obtain ⟨tn, htn⟩ : ∃ tn, tn = T.length := ⟨_, rfl⟩
      have HTN := Lib.hid htn
      rw [← htn] at htl hab HTS ⊢
      clear htn hQs
      have hways := cmpN_ways V y
      obtain ⟨cc, hcc⟩ : ∃ cc, cc = cmpN V y := ⟨_, rfl⟩
      rw [← hcc] at hab hways
      have HAB := Lib.hid hab
      clear hab hcc
      by_cases hVy : V < y
      · have hcd : decide (cc < 0) = true := decide_eq_true (by omega)
        have hQ0 : Qs = 0 := by rw [HQE.out]; exact Nat.div_eq_of_lt hVy
        have hst := HST.out
        rw [hQ0, set_zero (by rw [HLL.out]; exact hjm) (HLZ.out _), Nat.mul_zero, Nat.sub_zero] at hst
        have HST2 := Lib.hid hst
        have htn2 : tn ≤ n := HTS.out hVy
        clear hst hQ0 hways hVy
        go_wp2_with fail
        refine HAB.out.mono ?_
        rintro e w4 ⟨rfl, hw4⟩
        have B4 := Lib.hid (HNB3.out.trans (hw4.mono HNB3.out.size))
        have O4 := Lib.hid (HNO3.out.below hw4)
        have P4 := Lib.hid (HNP3.out.below hw4)
        clear hw4
        go_wp2_with fail
        all_goals go_roundw
        case rel => exact ⟨_, j, V, L, T, o1, c1, by rw [HTN.out], rfl, by omega, by omega, by rw [← HTN.out]; exact htn2, ⟨rfl, HST2.out, HT1.out, P4.out, HNE.out⟩, O4, B4⟩
        case measure => simp [intOf] <;> omega
      · have hcd : decide (cc < 0) = false := decide_eq_false (by omega)
        have hle : y ≤ V := by omega
        clear hways hVy
        by_cases ht1 : tn = 1
        · subst ht1
          have hT1 := len_one HT1.out HTN.out.symm
          have hq1 := pcs_one HQ.out HY.out (by omega)
          have HQ9 := Lib.hid (show n = 1 by rw [HN.out, hq1]; rfl)
          obtain ⟨g1, hg1, hg1l, hg1c⟩ : ∃ g1, o1 = some ⟨g1, 0, none⟩ ∧ g1 < w3.heap.size ∧ w3.cell? ⟨g1, 0, none⟩ = some (.int .i64 (V : Int)) := by
            rcases HNP3.out.cell with ⟨_, h, _⟩ | ⟨g1, e, hl, hc⟩
            · rw [h] at hT1; cases hT1.1
            · refine ⟨g1, e, hl, ?_⟩
              have h0 := hc 0 (by rw [hT1.1]; exact Nat.one_pos)
              simp only [hT1.1] at h0
              exact h0
          obtain ⟨g2, hg2, hg2l, hg2c⟩ : ∃ g2, b = some ⟨g2, 0, none⟩ ∧ g2 < w3.heap.size ∧ w3.cell? ⟨g2, 0, none⟩ = some (.int .i64 (y : Int)) := by
            rcases (HQB.out _ HNB3.out).cell with ⟨_, h, _⟩ | ⟨g2, e, hl, hc⟩
            · rw [h] at hq1; cases hq1
            · refine ⟨g2, e, hl, ?_⟩
              have h0 := hc 0 (by rw [hq1]; exact Nat.one_pos)
              simp only [hq1] at h0
              exact h0
          have hgn1 := HNE.out g1 hg1
          have hgn2 : g2 ≠ w.heap.size := by
            rcases (HQB.out w (Below.refl _ _)).cell with ⟨h, _, _⟩ | ⟨g3, e, hl, _⟩
            · rw [h] at hg2; cases hg2
            · rw [e] at hg2; injection hg2 with hg2; injection hg2 with hg2; omega
          have hVy1 := hT1.2.1
          have hqd : (V : Int).tdiv (y : Int) = (Qs : Int) := by rw [HQE.out, Int.tdiv_eq_ediv_of_nonneg (by omega)]; simp
          obtain ⟨M, hM⟩ : ∃ M, M = V % y := ⟨_, rfl⟩
          have hmd : (V : Int).tmod (y : Int) = (M : Int) := by rw [hM, Int.tmod_eq_emod_of_nonneg (by omega)]; simp
          have hMV : V - y * Qs = M := by rw [hM, HQE.out]; have := Nat.div_add_mod V y; omega
          have hMy : M < y := by rw [hM]; exact Nat.mod_lt _ HY.out
          have wq := IntWalk.i64_in (Qs : Int) ⟨by omega, by omega⟩
          have wm := IntWalk.i64_in (M : Int) ⟨by omega, by omega⟩
          obtain ⟨Vi, hVi⟩ : ∃ v : Int, v = (V : Int) := ⟨_, rfl⟩
          obtain ⟨yi, hyi⟩ : ∃ v : Int, v = (y : Int) := ⟨_, rfl⟩
          have hyne : yi ≠ 0 := by have := HY.out; omega
          have hy0 : (yi == 0) = false := by rw [beq_eq_false_iff_ne]; have := HY.out; omega
          rw [← hVi, ← hyi] at hqd hmd
          rw [← hVi] at hg1c
          rw [← hyi] at hg2c
          have HTM := Lib.hid (fun (wx : World) => trimY_any false (some ⟨wx.heap.size, 0, none⟩) 1 [M] ((wx.alloc (.cells #[.int .i64 (M : Int)] 3)).drew) ((Pd.one wx M (by omega)).below (Below.drew (Below.refl _ _))))
          unfold whV at HTM
          have HMP := Lib.hid (show Pcs (trimP [M]) (V - y * Qs) by
            rw [hMV]
            have := Pcs.of_trim (p := [M]) (fun x hx => by simp at hx; omega)
            rw [pv_one] at this; exact this)
          have hn1 : n = 1 := HQ9.out
          subst hn1
          subst hg1
          subst hg2
          have HCS := Lib.hid (show ∀ wx, Below w3.heap.size w3 wx → wx.cell? ⟨g1, 0, none⟩ = some (.int .i64 Vi) ∧ wx.cell? ⟨g2, 0, none⟩ = some (.int .i64 yi) from fun wx h => ⟨by rw [h.cell (p := ⟨g1, 0, none⟩) hg1l]; exact hg1c, by rw [h.cell (p := ⟨g2, 0, none⟩) hg2l]; exact hg2c⟩)
          have hjl : j < L.length := by rw [HLL.out]; exact hjm
          clear hT1 hq1 hM hMV hg1c hg2c HTS htl hVi hyi
          go_wp2_with fail
          refine HAB.out.mono ?_
          rintro e w4 ⟨rfl, hw4⟩
          have B4 := Lib.hid (HNB3.out.trans (hw4.mono HNB3.out.size))
          have O4 := Lib.hid (HNO3.out.below hw4)
          have HC4 := Lib.hid (show ∀ wx, Below w4.heap.size w4 wx → wx.cell? ⟨g1, 0, none⟩ = some (.int .i64 Vi) ∧ wx.cell? ⟨g2, 0, none⟩ = some (.int .i64 yi) from fun wx h => HCS.out wx (hw4.trans (h.mono hw4.size)))
          clear hw4 HNB3 HNO3 HCS HAB
          go_wp2_with fail
          have P1 := Lib.hid (Below.drew ((Below.refl w4.heap.size w4).alloc (Nat.le_refl _) (.cells #[.int .i64 (M : Int)] 3)))
          have HPM := Lib.hid (((Pd.one w4 M (by omega)).below (Below.drew (Below.refl _ _))).trim)
          have HT4 := Lib.hid (HTM.out w4)
          go_region_held3 (fun W => W.cell? ⟨g1, 0, none⟩ = some (.int .i64 Vi) ∧ W.cell? ⟨g2, 0, none⟩ = some (.int .i64 yi)) (first | exact ⟨by rw [World.cell?_setCell_far _ _ _ _ (by show w.heap.size ≠ g1; omega)]; exact (HC4.out _ (P1.out.trans (h5.out.mono P1.out.size))).1, by rw [World.cell?_setCell_far _ _ _ _ (by show w.heap.size ≠ g2; omega)]; exact (HC4.out _ (P1.out.trans (h5.out.mono P1.out.size))).2⟩ | exact HC4.out _ (P1.out.trans (h5.out.mono P1.out.size)) | exact HC4.out _ P1.out | exact HC4.out _ (Below.drew (Below.refl _ _))) (first | (go_at_call 75; refine HT4.out.mono ?_; rintro e w5 ⟨rfl, hx5⟩; have h5 := Lib.hid hx5; have hO5 := O4.out.below (P1.out.trans (hx5.mono P1.out.size)); have hf5 := hO5.free j; have hc5 := hO5.cell j hjl; have hS5 := hO5.set j Qs; clear hx5 hO5))
          all_goals (
            go_wp2_with fail
            all_goals go_roundw
            case rel => exact ⟨_, j, V - y * Qs, L.set j Qs, trimP [M], some ⟨w4.heap.size, 0, none⟩, 1, rfl, rfl, by omega, by omega, Nat.le_trans (trimP_props [M]).2.2.2.1 (Nat.le_refl _), ⟨rfl, HST.out, HMP.out, (HPM.out.below h5.out).storedY w.heap.size j _ (fun g' e => by injection e with e; injection e with e; have := B4.out.size; have := (World.ownsRow.lt O4.out w.heap.size rfl).2; omega), fun g' e => by injection e with e; injection e with e; have := (World.ownsRow.lt O4.out w.heap.size rfl).2; omega⟩, by assumption, (B4.out.trans ((P1.out.trans (h5.out.mono P1.out.size)).mono B4.out.size)).setCell (p := ⟨w.heap.size, j, none⟩) (Nat.le_refl _) _⟩
            case measure => simp [intOf] <;> omega)
        · have htb : ((tn : Int) == 1) = false := by rw [beq_eq_false_iff_ne]; omega
          go_wp2_with fail
          refine HAB.out.mono ?_
          rintro e w4 ⟨rfl, hw4⟩
          have B4 := Lib.hid (HNB3.out.trans (hw4.mono HNB3.out.size))
          have O4 := Lib.hid (HNO3.out.below hw4)
          have P4 := Lib.hid (HNP3.out.below hw4)
          clear hw4 HNB3 HNO3 HNP3 HAB
          go_wp2_with fail
          go_loopw [7, 8, 9] (fun lv hv _ wx => ∃ lo hi : Nat, lv = .int .i64 (lo : Int) ∧ hv = .int .i64 (hi : Int) ∧ hi ≤ 1000000000 ∧ lo < hi ∧ Hid (lo ≤ Qs ∧ Qs < hi) ∧ Hid (Below w4.heap.size w4 wx)) (fun lv hv _ _ => (intOf hv - intOf lv).toNat)
          case atStart => exact ⟨0, 1000000000, rfl, rfl, by decide, by decide, ⟨Nat.zero_le _, by omega⟩, Below.refl _ _⟩
          case round =>
            obtain ⟨lo, hi', rfl, rfl, hh9, hlh, HS, HBX⟩ := hrel
            have HWB := Lib.hid (B4.out.trans (HBX.out.mono B4.out.size))
            have wd := IntWalk.i64_in ((hi' : Int) - lo) ⟨by omega, by omega⟩
            by_cases hlt : lo + 1 < hi'
            · obtain ⟨mid, hmid⟩ : ∃ t, t = (lo + hi') / 2 := ⟨_, rfl⟩
              have hm1 : lo < mid := by omega
              have hm2 : mid < hi' := by omega
              have hmi : ((lo : Int) + hi').tdiv 2 = (mid : Int) := by rw [Int.tdiv_eq_ediv_of_nonneg (by omega)]; omega
              have hmd : ((lo : Int) + hi') / 2 = (mid : Int) := by omega
              have ws := IntWalk.i64_in ((lo : Int) + hi') ⟨by omega, by omega⟩
              have wm := IntWalk.i64_in (mid : Int) ⟨by omega, by omega⟩
              have HTI := Lib.hid (HTIM.out _ mid (by omega) HWB.out)
              have hlti : (1 : Int) < (hi' : Int) - (lo : Int) := by omega
              clear hmid
              go_wp2_with fail
              refine HTI.out.mono ?_
              rintro e w5 ⟨⟨o4, c4, r4, rfl, hr41, hr42, hr43⟩, hb5⟩
              have hB5 := HBX.out.trans (hb5.mono HBX.out.size)
              have hor := aboveY_any o4 c4 r4 o1 c1 T (y * mid) V w5 hr41 (P4.out.below hB5) hr42 HT1.out
              rw [← HTN.out] at hor
              obtain ⟨n4, hn4⟩ : ∃ n4, n4 = r4.length := ⟨_, rfl⟩
              rw [← hn4] at hor ⊢
              have hways := cmpN_ways (y * mid) V
              obtain ⟨c5, hc5⟩ : ∃ t, t = cmpN (y * mid) V := ⟨_, rfl⟩
              rw [← hc5] at hor hways
              have HOR := Lib.hid hor
              have HB5 := Lib.hid hB5
              clear hor hc5 hr41 hr42 hr43 hb5 hB5 hn4
              by_cases hle2 : y * mid ≤ V
              · have hcd5 : decide (c5 ≤ 0) = true := decide_eq_true (by omega)
                have HS2 := Lib.hid (show mid ≤ Qs ∧ Qs < hi' from ⟨(HQS.out mid).1 hle2, HS.out.2⟩)
                clear hways hle2
                go_wp2_with fail
                refine HOR.out.mono ?_
                rintro e w6 ⟨rfl, hb6⟩
                have HB6 := Lib.hid (HB5.out.trans (hb6.mono HB5.out.size))
                clear hb6
                go_wp2_with fail
                all_goals go_roundw
                case rel => exact ⟨mid, hi', rfl, rfl, hh9, hm2, HS2, HB6⟩
                case measure => simp [intOf] <;> omega
              · have hcd5 : decide (c5 ≤ 0) = false := decide_eq_false (by omega)
                have HS2 := Lib.hid (show lo ≤ Qs ∧ Qs < mid from ⟨HS.out.1, by
                  apply Nat.lt_of_not_le; intro h6
                  exact hle2 ((HQS.out mid).2 h6)⟩)
                clear hways hle2
                go_wp2_with fail
                refine HOR.out.mono ?_
                rintro e w6 ⟨rfl, hb6⟩
                have HB6 := Lib.hid (HB5.out.trans (hb6.mono HB5.out.size))
                clear hb6
                go_wp2_with fail
                all_goals go_roundw
                case rel => exact ⟨lo, mid, rfl, rfl, by omega, hm1, HS2, HB6⟩
                case measure => simp [intOf] <;> omega
            · have hlq : lo = Qs := by have := HS.out; omega
              have hnlt : ¬ (1 : Int) < (hi' : Int) - (lo : Int) := by omega
              have HTI := Lib.hid (HTIM.out _ lo (by omega) HWB.out)
              have HVL := Lib.hid (show y * lo ≤ V by rw [hlq]; exact (HQS.out Qs).2 (Nat.le_refl _))
              have hjl : j < L.length := by rw [HLL.out]; exact hjm
              have HST2 := Lib.hid (show Dw p (L.set j lo) m j y (V - y * lo) by rw [hlq]; exact HST.out)
              clear hlq HS
              go_wp2_with fail
              refine HTI.out.mono ?_
              rintro e w5 ⟨⟨o7, c7, r7, rfl, hr71, hr72, hr73⟩, hb5⟩
              have HB5 := Lib.hid (HBX.out.trans (hb5.mono HBX.out.size))
              have hmi := minusY_any o1 c1 T o7 c7 r7 V (y * lo) w5 (P4.out.below HB5.out) hr71 HT1.out hr72 HVL.out (by rw [← HTN.out]; omega)
              rw [← HTN.out] at hmi
              have HMI := Lib.hid hmi
              obtain ⟨n7, hn7⟩ : ∃ n7, n7 = r7.length := ⟨_, rfl⟩
              rw [← hn7] at HMI ⊢
              clear hmi hr71 hr72 hr73 hb5 hn7
              go_wp2_with fail
              refine HMI.out.mono ?_
              rintro e w6 ⟨o8, c8, r8, rfl, hr81, hr82, hr83, hr84, hb6⟩
              have HB6 := Lib.hid (HB5.out.trans (hb6.mono HB5.out.size))
              have hTM := trimY_any false o8 c8 r8 w6 hr81
              unfold whV at hTM
              have HTM := Lib.hid hTM
              have HP8 := Lib.hid (show Pcs (trimP r8) (V - y * lo) by rw [← hr82]; exact Pcs.of_trim hr81.nine)
              have HD8 := Lib.hid hr81.trim
              have HN8 := Lib.hid (show NewO (w.heap.size + 1) o8 from hr84.mono (by have := HB5.out.size; have := (World.ownsRow.lt O4.out w.heap.size rfl).2; omega))
              have h8n : (trimP r8).length ≤ n := by rw [HN.out]; exact HQ.out.len_mono HP8.out (Nat.le_of_lt HST2.out.dv.lt)
              obtain ⟨n8, hn8⟩ : ∃ n8, n8 = r8.length := ⟨_, rfl⟩
              rw [← hn8] at HTM ⊢
              clear hTM hr81 hr82 hr83 hr84 hb6 hn8
              go_wp2_with fail
              refine HTM.out.mono ?_
              rintro e w7 ⟨rfl, hb7⟩
              have HB7 := Lib.hid (HB6.out.trans (hb7.mono HB6.out.size))
              have HD9 := Lib.hid (HD8.out.below hb7)
              have hO7 := O4.out.below HB7.out
              have hf7 := hO7.free j
              have hc7 := hO7.cell j hjl
              have HW7 := Lib.hid (hO7.set j lo)
              have HBW := Lib.hid ((B4.out.trans (HB7.out.mono B4.out.size)).setCell (p := ⟨w.heap.size, j, none⟩) (Nat.le_refl _) (.int .i64 (lo : Int)))
              have HDS := Lib.hid (HD9.out.storedY w.heap.size j (.int .i64 (lo : Int)) (HN8.out.ne (by omega)))
              clear hb7 hO7
              go_wp2_with fail
              all_goals go_roundw
              case rel => exact ⟨_, j, V - y * lo, L.set j lo, trimP r8, o8, c8, rfl, rfl, by omega, by omega, h8n, ⟨rfl, HST2.out, HP8.out, HDS.out, HN8.out⟩, HW7, HBW⟩
              case measure => simp [intOf] <;> omega
end Go.Proofs.YtdgbplppabalgaaGreatDoor
