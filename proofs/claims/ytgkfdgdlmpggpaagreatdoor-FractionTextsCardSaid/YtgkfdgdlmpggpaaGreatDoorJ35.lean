/-
  Texts of one seat, joined: YArith YSub.
-/
import Derived.Test.YtgkfdgdlmpggpaaGreatDoorJ33
import Derived.Test.YtgkfdgdlmpggpaaGreatDoorJ34
import Derived.Deep.RegionHeld3
import Derived.Test.YtgkfdgdlmpggpaaGreatDoorJ21
namespace Go.Proofs.YtgkfdgdlmpggpaaGreatDoor
open Go.RowKit

set_option maxHeartbeats 800000 in
theorem intY_any (z : Int) (w : World) (hs : Std w) (h1 : -9223372036854775808 ≤ z) (h2 : z ≤ 9223372036854775807) :
    Calls Tryz.prog 19 #[.int .i64 z] w fun e w' => e = .returned (.string (zS z)) ∧ Below w.heap.size w w' := by
  have HT := Lib.hid (itoaZ z w hs h1 h2)
  clear hs
  go_enter Tryz.func19, Tryz.ntmps19
  go_wp2_with fail
  refine HT.out.mono ?_
  rintro e w1 ⟨rfl, hb1⟩
  have B1 := Lib.hid hb1
  clear hb1
  go_wp2_with fail
  go_ret
  exact ⟨rfl, B1.out⟩
theorem Wf.lim {B : Nat} {w : World} {b : Bool} {o : Option Addr} {c : Nat} {L : List Nat} {z : Int} (h : Wf B w b o c L z) : L.length ≤ c := h.wh.pd.lc
set_option maxHeartbeats 1600000 in
theorem ofWY_any (z : Int) (w : World) (hs : Std w) (h1 : -9223372036854775808 ≤ z) (h2 : z ≤ 9223372036854775807) :
    Calls Tryz.prog 60 #[.int .i64 z] w fun e w' => (∃ (b : Bool) (o : Option Addr) (c : Nat) (L : List Nat), e = .returned (whV b o c L) ∧ Wf w.heap.size w' b o c L z) ∧ Below w.heap.size w w' := by
  have HI := Lib.hid (fun wx hw => intY_any z wx hw h1 h2)
  have HT := Lib.hid (fun wx => toY_any z wx (Nat.le_trans (str_big (a := z.natAbs) (n := 19) (by omega) (by decide)) (by decide)))
  obtain ⟨s, hs2⟩ : ∃ s, s = zS z := ⟨_, rfl⟩
  rw [← hs2] at HI HT
  have HS := Lib.hid hs
  have HR0 := Lib.hid (BxO.new w w.heap.size (Nat.le_refl _) false (.slice none 0 0))
  have HB0 := Lib.hid ((Below.refl w.heap.size w).alloc (Nat.le_refl _) (.cells #[.bool false, .slice none 0 0] 43))
  clear hs hs2
  go_enter Tryz.func60, Tryz.ntmps60
  go_upto_region 1 with fail
  obtain ⟨W0, hW0⟩ : ∃ W0, W0 = w.alloc (.cells #[.bool false, .slice none 0 0] 43) := ⟨_, rfl⟩
  rw [← hW0] at HR0 HB0 ⊢
  have HLT := Lib.hid HR0.out.lt.2
  clear hW0
  go_wp2_with fail
  refine (HI.out _ (HS.out.below HB0.out)).mono ?_
  rintro e w1 ⟨rfl, hb1⟩
  have B1 := Lib.hid (HB0.out.trans (hb1.mono HB0.out.size))
  have R0 := Lib.hid (HR0.out.kept hb1)
  have hl1 := hb1.size
  clear hb1 HR0
  go_wp2_with fail
  refine (HT.out _).mono ?_
  rintro e w2 ⟨⟨V, o, c, M, rfl, hwf⟩, hb2⟩
  have B2 := Lib.hid (B1.out.trans (hb2.mono B1.out.size))
  have R1 := Lib.hid (R0.out.kept hb2)
  have HN := Lib.hid hwf.wh
  have HNW := Lib.hid (show NewO (w.heap.size + 1) o from hwf.new.mono (by have := HLT.out; omega))
  clear hb2 R0 hwf
  try unfold whV
  obtain ⟨m, hm⟩ : ∃ m, m = M.length := ⟨_, rfl⟩
  have HM := Lib.hid hm
  rw [← hm]
  clear hm
  have f0 := R1.out.free 0
  have f1 := R1.out.free 1
  have e0 := R1.out.neg
  have e1 := R1.out.dig
  have Y1 := R1.out.set0 V
  have y1 := Y1.free 1
  have z1 := Y1.dig
  have Y2 := Y1.set1 (.slice o m c)
  have u0 := Y2.neg
  have u1 := Y2.dig
  have HBE := Lib.hid ((B2.out.setCell (p := ⟨w.heap.size, 0, none⟩) (Nat.le_refl _) (.bool V)).setCell (p := ⟨w.heap.size, 1, none⟩) (Nat.le_refl _) (.slice o m c))
  have HWE := Lib.hid ((HN.out.stored (w.heap.size) 0 (.bool V) (HNW.out.ne (by omega))).stored (w.heap.size) 1 (.slice o m c) (HNW.out.ne (by omega)))
  clear Y1 Y2 R1
  go_wp2_with fail
  (try simp only [Exit.inBlock, Exit.then])
  refine bodyPost_ret (v := .agg #[.bool V, .slice o m c]) ?_ rfl ⟨⟨V, o, c, M, by rw [HM.out], HWE.out, HNW.out.mono (by omega)⟩, HBE.out⟩
  rw [results_cell_one rfl]
  go_simp
set_option maxHeartbeats 6400000 in
set_option maxRecDepth 100000 in
theorem addWY_same (b1 : Bool) (a : Option Addr) (ca : Nat) (p : List Nat) (x : Int) (b2 : Bool) (b : Option Addr) (cb : Nat) (q : List Nat) (y : Int) (w : World) (ha : Wh w b1 a ca p x) (hb : Wh w b2 b cb q y) (hpl : p.length ≤ 50000) (hql : q.length ≤ 50000) (hc : (b1 == b2) = true) :
    Calls Tryz.prog 91 #[whV b1 a ca p, whV b2 b cb q] w fun e w' => (∃ (b3 : Bool) (o : Option Addr) (c : Nat) (r : List Nat), e = .returned (whV b3 o c r) ∧ Wf w.heap.size w' b3 o c r (x + y)) ∧ Below w.heap.size w w' := by
  have hab := ha.neg
  have hbb := hb.neg
  have hbe : b1 = b2 := beq_iff_eq.1 hc
  have HVZ := Lib.hid (show pv p + pv q = (x + y).natAbs by
    rw [ha.pcs.val, hb.pcs.val]
    have e : decide (x < 0) = decide (y < 0) := by rw [← hab, ← hbb, hbe]
    by_cases h : x < 0
    · rw [decide_eq_true h] at e; have := of_decide_eq_true e.symm; omega
    · rw [decide_eq_false h] at e; have := of_decide_eq_false e.symm; omega)
  have HZS := Lib.hid (show x + y ≠ 0 → b1 = decide (x + y < 0) from fun _ => by
    have e : decide (x < 0) = decide (y < 0) := by rw [← hab, ← hbb, hbe]
    rw [hab]
    by_cases h : x < 0
    · rw [decide_eq_true h] at e; have := of_decide_eq_true e.symm; rw [decide_eq_true h, decide_eq_true (by omega)]
    · rw [decide_eq_false h] at e; have := of_decide_eq_false e.symm; rw [decide_eq_false h, decide_eq_false (by omega)])
  have HCX := Lib.hid (fun (wx : World) (hx : Below w.heap.size w wx) => (show Calls Tryz.prog 133 #[.slice a p.length ca, .slice b q.length cb] wx fun e w' => ∃ (o : Option Addr) (c : Nat) (r : List Nat), e = .returned (.slice o r.length c) ∧ Pd w' o c r ∧ pv r = pv p + pv q ∧ NewO wx.heap.size o ∧ Below wx.heap.size wx w' from (plusY_any a ca p b cb q wx (ha.pd.below hx) (hb.pd.below hx) (by omega) (by omega)).mono fun e w' ⟨o, c, r, h1, h2, h3, _, h5, h6⟩ => ⟨o, c, r, h1, h2, h3, h5, h6⟩))
  clear hbe
  have HX0 := Bw.new w b1 (.slice a p.length ca) b2 (.slice b q.length cb)
  obtain ⟨z, hz⟩ : ∃ z, z = x + y := ⟨_, rfl⟩
  rw [← hz] at HVZ HZS ⊢
  clear hz
  have HAV := Lib.hid (fun (wx : World) (hx : Below w.heap.size w wx) => aboveY_any a ca p b cb q x.natAbs y.natAbs wx (ha.pd.below hx) (hb.pd.below hx) ha.pcs hb.pcs)
  unfold whV
  obtain ⟨m, hm⟩ : ∃ m, m = p.length := ⟨_, rfl⟩
  obtain ⟨n, hn⟩ : ∃ m, m = q.length := ⟨_, rfl⟩
  rw [← hm, ← hn] at HX0 HAV HCX
  rw [← hm, ← hn]
  clear hm hn ha hb hab hbb
  go_enter Tryz.func91, Tryz.ntmps91
  go_upto_region 1 with fail
  obtain ⟨W0, hW0⟩ : ∃ W0, W0 = ((w.alloc (.cells #[.bool b1, .slice a m ca] 43)).alloc (.cells #[.bool b2, .slice b n cb] 43)).alloc (.cells #[.bool false, .slice none 0 0] 43) := ⟨_, rfl⟩
  rw [← hW0] at HX0 ⊢
  clear hW0
  have HBX := Lib.hid HX0
  have HLT := Lib.hid HX0.lt
  have k1 := HX0.one.neg
  have k2 := HX0.two.neg
  have k3 := HX0.one.dig
  have k4 := HX0.two.dig
  clear HX0
  have HCA := Lib.hid (show ∀ wx, Bw w wx b1 (.slice a m ca) b2 (.slice b n cb) → Calls Tryz.prog 133 #[.slice a m ca, .slice b n cb] wx fun e w' => ∃ (o : Option Addr) (c : Nat) (r : List Nat), e = .returned (.slice o r.length c) ∧ Pd w' o c r ∧ pv r = pv p + pv q ∧ NewO (w.heap.size + 1 + 1 + 1) o ∧ Below wx.heap.size wx w' from fun wx hx => (HCX.out wx hx.below).mono fun e w' ⟨o, c, r, h1, h2, h3, h4, h5⟩ => ⟨o, c, r, h1, h2, h3, h4.mono (by have := hx.lt; omega), h5⟩)
  clear HAV HCX
  go_wp2_with fail
  have Z0 := Lib.hid (HBX.out.drewN 1)
  go_region_held3 (fun W => W.cell? ⟨w.heap.size, 0, none⟩ = some (.bool b1) ∧ W.cell? ⟨w.heap.size, 1, none⟩ = some (.slice a m ca) ∧ W.cell? ⟨w.heap.size + 1, 0, none⟩ = some (.bool b2) ∧ W.cell? ⟨w.heap.size + 1, 1, none⟩ = some (.slice b n cb)) (first | exact ⟨((Z2.out.one.other (p := ⟨w.heap.size + 1 + 1, 0, none⟩) (by show w.heap.size ≠ w.heap.size + 1 + 1; omega) _).other (p := ⟨w.heap.size + 1 + 1, 1, none⟩) (by show w.heap.size ≠ w.heap.size + 1 + 1; omega) _).neg, ((Z2.out.one.other (p := ⟨w.heap.size + 1 + 1, 0, none⟩) (by show w.heap.size ≠ w.heap.size + 1 + 1; omega) _).other (p := ⟨w.heap.size + 1 + 1, 1, none⟩) (by show w.heap.size ≠ w.heap.size + 1 + 1; omega) _).dig, ((Z2.out.two.other (p := ⟨w.heap.size + 1 + 1, 0, none⟩) (by show w.heap.size + 1 ≠ w.heap.size + 1 + 1; omega) _).other (p := ⟨w.heap.size + 1 + 1, 1, none⟩) (by show w.heap.size + 1 ≠ w.heap.size + 1 + 1; omega) _).neg, ((Z2.out.two.other (p := ⟨w.heap.size + 1 + 1, 0, none⟩) (by show w.heap.size + 1 ≠ w.heap.size + 1 + 1; omega) _).other (p := ⟨w.heap.size + 1 + 1, 1, none⟩) (by show w.heap.size + 1 ≠ w.heap.size + 1 + 1; omega) _).dig⟩ | exact ⟨Z2.out.one.neg, Z2.out.one.dig, Z2.out.two.neg, Z2.out.two.dig⟩ | exact ⟨Z1.out.one.neg, Z1.out.one.dig, Z1.out.two.neg, Z1.out.two.dig⟩ | exact ⟨Z0.out.one.neg, Z0.out.one.dig, Z0.out.two.neg, Z0.out.two.dig⟩) (first | (go_at_call 75; have hq1 := HP1.out; refine (trimY_any b1 o1 c1 r1 _ hq1).mono ?_; rintro e w2 ⟨rfl, h2⟩; have Z2 := Lib.hid (Z1.out.to h2); have HWT := Lib.hid ((Wh.trimmed b1 hq1 z HZV.out HZS.out).below h2); have f0 := Z2.out.res.free 0; have f1 := Z2.out.res.free 1; have e0 := Z2.out.res.neg; have e1 := Z2.out.res.dig; have Y1 := Z2.out.res.set0 (b1 && decide (0 < (trimP r1).length)); have y1 := Y1.free 1; have z1 := Y1.dig; have Y2 := Y1.set1 (.slice o1 (trimP r1).length c1); have u0 := Y2.neg; have u1 := Y2.dig; clear Y1 Y2 h2 hq1) | (go_at_call 133; refine (HCA.out _ ?hzz).mono ?_; (case hzz => exact Z0.out); rintro e w1 ⟨o1, c1, r1, rfl, hp1, hv1, hn1, h1⟩; have Z1 := Lib.hid (Z0.out.to h1); have HP1 := Lib.hid hp1; have HZV := Lib.hid (hv1.trans HVZ.out); have HNW := Lib.hid hn1; clear h1 hp1 hv1 hn1))
  all_goals (
    go_wp2_with fail
    (try simp only [Exit.inBlock, Exit.then])
    refine bodyPost_ret (v := .agg #[.bool (b1 && decide (0 < (trimP r1).length)), .slice o1 (trimP r1).length c1]) ?_ rfl ⟨⟨_, o1, c1, trimP r1, rfl, ((HWT.out.stored (w.heap.size + 1 + 1) 0 _ (HNW.out.ne (by have := HLT.out; omega))).stored (w.heap.size + 1 + 1) 1 _ (HNW.out.ne (by have := HLT.out; omega))), HNW.out.mono (by have := HLT.out; omega)⟩, (Z2.out.below.setCell (p := ⟨w.heap.size + 1 + 1, 0, none⟩) (by show w.heap.size ≤ w.heap.size + 1 + 1; omega) _).setCell (p := ⟨w.heap.size + 1 + 1, 1, none⟩) (by show w.heap.size ≤ w.heap.size + 1 + 1; omega) _⟩
    rw [results_cell_one rfl]
    go_simp)
set_option maxHeartbeats 6400000 in
set_option maxRecDepth 100000 in
theorem addWY_ge (b1 : Bool) (a : Option Addr) (ca : Nat) (p : List Nat) (x : Int) (b2 : Bool) (b : Option Addr) (cb : Nat) (q : List Nat) (y : Int) (w : World) (ha : Wh w b1 a ca p x) (hb : Wh w b2 b cb q y) (hpl : p.length ≤ 50000) (_hql : q.length ≤ 50000) (hc : (b1 == b2) = false) (hg : y.natAbs ≤ x.natAbs) :
    Calls Tryz.prog 91 #[whV b1 a ca p, whV b2 b cb q] w fun e w' => (∃ (b3 : Bool) (o : Option Addr) (c : Nat) (r : List Nat), e = .returned (whV b3 o c r) ∧ Wf w.heap.size w' b3 o c r (x + y)) ∧ Below w.heap.size w w' := by
  have hab := ha.neg
  have hbb := hb.neg
  have hne : b1 ≠ b2 := beq_eq_false_iff_ne.1 hc
  have hsg : (x < 0 ∧ ¬ y < 0) ∨ (¬ x < 0 ∧ y < 0) := by
    by_cases h : x < 0 <;> by_cases k : y < 0
    · exact absurd (by rw [hab, hbb, decide_eq_true h, decide_eq_true k]) hne
    · exact .inl ⟨h, k⟩
    · exact .inr ⟨h, k⟩
    · exact absurd (by rw [hab, hbb, decide_eq_false h, decide_eq_false k]) hne
  have HVZ := Lib.hid (show x.natAbs - y.natAbs = (x + y).natAbs by omega)
  have HZS := Lib.hid (show x + y ≠ 0 → b1 = decide (x + y < 0) from fun h0 => by
    rw [hab]
    by_cases h : x < 0
    · rw [decide_eq_true h, decide_eq_true (by omega)]
    · rw [decide_eq_false h, decide_eq_false (by omega)])
  have hcm : decide (cmpN x.natAbs y.natAbs ≥ 0) = true := by
    rcases cmpN_ways x.natAbs y.natAbs with ⟨h, e⟩ | ⟨h, e⟩ | ⟨h, e⟩ <;> rw [e] <;> first | decide | omega
  have HCX := Lib.hid (fun (wx : World) (hx : Below w.heap.size w wx) => (show Calls Tryz.prog 120 #[.slice a p.length ca, .slice b q.length cb] wx fun e w' => ∃ (o : Option Addr) (c : Nat) (r : List Nat), e = .returned (.slice o r.length c) ∧ Pd w' o c r ∧ pv r = x.natAbs - y.natAbs ∧ NewO wx.heap.size o ∧ Below wx.heap.size wx w' from (minusY_any a ca p b cb q x.natAbs y.natAbs wx (ha.pd.below hx) (hb.pd.below hx) ha.pcs hb.pcs (by omega) (by omega)).mono fun e w' ⟨o, c, r, h1, h2, h3, _, h5, h6⟩ => ⟨o, c, r, h1, h2, h3, h5, h6⟩))
  clear hne hsg hg
  have HX0 := Bw.new w b1 (.slice a p.length ca) b2 (.slice b q.length cb)
  obtain ⟨z, hz⟩ : ∃ z, z = x + y := ⟨_, rfl⟩
  rw [← hz] at HVZ HZS ⊢
  clear hz
  have HAV := Lib.hid (fun (wx : World) (hx : Below w.heap.size w wx) => aboveY_any a ca p b cb q x.natAbs y.natAbs wx (ha.pd.below hx) (hb.pd.below hx) ha.pcs hb.pcs)
  unfold whV
  obtain ⟨m, hm⟩ : ∃ m, m = p.length := ⟨_, rfl⟩
  obtain ⟨n, hn⟩ : ∃ m, m = q.length := ⟨_, rfl⟩
  rw [← hm, ← hn] at HX0 HAV HCX
  rw [← hm, ← hn]
  clear hm hn ha hb hab hbb
  go_enter Tryz.func91, Tryz.ntmps91
  go_upto_region 1 with fail
  obtain ⟨W0, hW0⟩ : ∃ W0, W0 = ((w.alloc (.cells #[.bool b1, .slice a m ca] 43)).alloc (.cells #[.bool b2, .slice b n cb] 43)).alloc (.cells #[.bool false, .slice none 0 0] 43) := ⟨_, rfl⟩
  rw [← hW0] at HX0 ⊢
  clear hW0
  have HBX := Lib.hid HX0
  have HLT := Lib.hid HX0.lt
  have k1 := HX0.one.neg
  have k2 := HX0.two.neg
  have k3 := HX0.one.dig
  have k4 := HX0.two.dig
  clear HX0
  have HCA := Lib.hid (show ∀ wx, Bw w wx b1 (.slice a m ca) b2 (.slice b n cb) → Calls Tryz.prog 120 #[.slice a m ca, .slice b n cb] wx fun e w' => ∃ (o : Option Addr) (c : Nat) (r : List Nat), e = .returned (.slice o r.length c) ∧ Pd w' o c r ∧ pv r = x.natAbs - y.natAbs ∧ NewO (w.heap.size + 1 + 1 + 1) o ∧ Below wx.heap.size wx w' from fun wx hx => (HCX.out wx hx.below).mono fun e w' ⟨o, c, r, h1, h2, h3, h4, h5⟩ => ⟨o, c, r, h1, h2, h3, h4.mono (by have := hx.lt; omega), h5⟩)
  obtain ⟨cc, hcc⟩ : ∃ cc, cc = cmpN x.natAbs y.natAbs := ⟨_, rfl⟩
  rw [← hcc] at HAV hcm
  clear HCX hcc
  go_wp2_with fail
  refine (HAV.out _ HBX.out.below).mono ?_
  rintro e wa ⟨rfl, hwa⟩
  have HBZ := Lib.hid (HBX.out.to hwa)
  clear hwa k1 k2 k3 k4 HAV
  have k1 := HBZ.out.one.neg
  have k2 := HBZ.out.two.neg
  have k3 := HBZ.out.one.dig
  have k4 := HBZ.out.two.dig
  go_wp2_with fail
  have Z0 := Lib.hid (HBZ.out.drewN 1)
  go_region_held3 (fun W => W.cell? ⟨w.heap.size, 0, none⟩ = some (.bool b1) ∧ W.cell? ⟨w.heap.size, 1, none⟩ = some (.slice a m ca) ∧ W.cell? ⟨w.heap.size + 1, 0, none⟩ = some (.bool b2) ∧ W.cell? ⟨w.heap.size + 1, 1, none⟩ = some (.slice b n cb)) (first | exact ⟨((Z2.out.one.other (p := ⟨w.heap.size + 1 + 1, 0, none⟩) (by show w.heap.size ≠ w.heap.size + 1 + 1; omega) _).other (p := ⟨w.heap.size + 1 + 1, 1, none⟩) (by show w.heap.size ≠ w.heap.size + 1 + 1; omega) _).neg, ((Z2.out.one.other (p := ⟨w.heap.size + 1 + 1, 0, none⟩) (by show w.heap.size ≠ w.heap.size + 1 + 1; omega) _).other (p := ⟨w.heap.size + 1 + 1, 1, none⟩) (by show w.heap.size ≠ w.heap.size + 1 + 1; omega) _).dig, ((Z2.out.two.other (p := ⟨w.heap.size + 1 + 1, 0, none⟩) (by show w.heap.size + 1 ≠ w.heap.size + 1 + 1; omega) _).other (p := ⟨w.heap.size + 1 + 1, 1, none⟩) (by show w.heap.size + 1 ≠ w.heap.size + 1 + 1; omega) _).neg, ((Z2.out.two.other (p := ⟨w.heap.size + 1 + 1, 0, none⟩) (by show w.heap.size + 1 ≠ w.heap.size + 1 + 1; omega) _).other (p := ⟨w.heap.size + 1 + 1, 1, none⟩) (by show w.heap.size + 1 ≠ w.heap.size + 1 + 1; omega) _).dig⟩ | exact ⟨Z2.out.one.neg, Z2.out.one.dig, Z2.out.two.neg, Z2.out.two.dig⟩ | exact ⟨Z1.out.one.neg, Z1.out.one.dig, Z1.out.two.neg, Z1.out.two.dig⟩ | exact ⟨Z0.out.one.neg, Z0.out.one.dig, Z0.out.two.neg, Z0.out.two.dig⟩) (first | (go_at_call 75; have hq1 := HP1.out; refine (trimY_any b1 o1 c1 r1 _ hq1).mono ?_; rintro e w2 ⟨rfl, h2⟩; have Z2 := Lib.hid (Z1.out.to h2); have HWT := Lib.hid ((Wh.trimmed b1 hq1 z HZV.out HZS.out).below h2); have f0 := Z2.out.res.free 0; have f1 := Z2.out.res.free 1; have e0 := Z2.out.res.neg; have e1 := Z2.out.res.dig; have Y1 := Z2.out.res.set0 (b1 && decide (0 < (trimP r1).length)); have y1 := Y1.free 1; have z1 := Y1.dig; have Y2 := Y1.set1 (.slice o1 (trimP r1).length c1); have u0 := Y2.neg; have u1 := Y2.dig; clear Y1 Y2 h2 hq1) | (go_at_call 120; refine (HCA.out _ ?hzz).mono ?_; (case hzz => exact Z0.out); rintro e w1 ⟨o1, c1, r1, rfl, hp1, hv1, hn1, h1⟩; have Z1 := Lib.hid (Z0.out.to h1); have HP1 := Lib.hid hp1; have HZV := Lib.hid (hv1.trans HVZ.out); have HNW := Lib.hid hn1; clear h1 hp1 hv1 hn1))
  all_goals (
    go_wp2_with fail
    (try simp only [Exit.inBlock, Exit.then])
    refine bodyPost_ret (v := .agg #[.bool (b1 && decide (0 < (trimP r1).length)), .slice o1 (trimP r1).length c1]) ?_ rfl ⟨⟨_, o1, c1, trimP r1, rfl, ((HWT.out.stored (w.heap.size + 1 + 1) 0 _ (HNW.out.ne (by have := HLT.out; omega))).stored (w.heap.size + 1 + 1) 1 _ (HNW.out.ne (by have := HLT.out; omega))), HNW.out.mono (by have := HLT.out; omega)⟩, (Z2.out.below.setCell (p := ⟨w.heap.size + 1 + 1, 0, none⟩) (by show w.heap.size ≤ w.heap.size + 1 + 1; omega) _).setCell (p := ⟨w.heap.size + 1 + 1, 1, none⟩) (by show w.heap.size ≤ w.heap.size + 1 + 1; omega) _⟩
    rw [results_cell_one rfl]
    go_simp)
set_option maxHeartbeats 6400000 in
set_option maxRecDepth 100000 in
theorem addWY_lt (b1 : Bool) (a : Option Addr) (ca : Nat) (p : List Nat) (x : Int) (b2 : Bool) (b : Option Addr) (cb : Nat) (q : List Nat) (y : Int) (w : World) (ha : Wh w b1 a ca p x) (hb : Wh w b2 b cb q y) (_hpl : p.length ≤ 50000) (hql : q.length ≤ 50000) (hc : (b1 == b2) = false) (hg : x.natAbs < y.natAbs) :
    Calls Tryz.prog 91 #[whV b1 a ca p, whV b2 b cb q] w fun e w' => (∃ (b3 : Bool) (o : Option Addr) (c : Nat) (r : List Nat), e = .returned (whV b3 o c r) ∧ Wf w.heap.size w' b3 o c r (x + y)) ∧ Below w.heap.size w w' := by
  have hab := ha.neg
  have hbb := hb.neg
  have hne : b1 ≠ b2 := beq_eq_false_iff_ne.1 hc
  have hsg : (x < 0 ∧ ¬ y < 0) ∨ (¬ x < 0 ∧ y < 0) := by
    by_cases h : x < 0 <;> by_cases k : y < 0
    · exact absurd (by rw [hab, hbb, decide_eq_true h, decide_eq_true k]) hne
    · exact .inl ⟨h, k⟩
    · exact .inr ⟨h, k⟩
    · exact absurd (by rw [hab, hbb, decide_eq_false h, decide_eq_false k]) hne
  have HVZ := Lib.hid (show y.natAbs - x.natAbs = (x + y).natAbs by omega)
  have HZS := Lib.hid (show x + y ≠ 0 → b2 = decide (x + y < 0) from fun h0 => by
    rw [hbb]
    by_cases h : y < 0
    · rw [decide_eq_true h, decide_eq_true (by omega)]
    · rw [decide_eq_false h, decide_eq_false (by omega)])
  have hcm : decide (cmpN x.natAbs y.natAbs ≥ 0) = false := by
    rcases cmpN_ways x.natAbs y.natAbs with ⟨h, e⟩ | ⟨h, e⟩ | ⟨h, e⟩ <;> rw [e] <;> first | decide | omega
  have HCX := Lib.hid (fun (wx : World) (hx : Below w.heap.size w wx) => (show Calls Tryz.prog 120 #[.slice b q.length cb, .slice a p.length ca] wx fun e w' => ∃ (o : Option Addr) (c : Nat) (r : List Nat), e = .returned (.slice o r.length c) ∧ Pd w' o c r ∧ pv r = y.natAbs - x.natAbs ∧ NewO wx.heap.size o ∧ Below wx.heap.size wx w' from (minusY_any b cb q a ca p y.natAbs x.natAbs wx (hb.pd.below hx) (ha.pd.below hx) hb.pcs ha.pcs (by omega) (by omega)).mono fun e w' ⟨o, c, r, h1, h2, h3, _, h5, h6⟩ => ⟨o, c, r, h1, h2, h3, h5, h6⟩))
  clear hne hsg hg
  have HX0 := Bw.new w b1 (.slice a p.length ca) b2 (.slice b q.length cb)
  obtain ⟨z, hz⟩ : ∃ z, z = x + y := ⟨_, rfl⟩
  rw [← hz] at HVZ HZS ⊢
  clear hz
  have HAV := Lib.hid (fun (wx : World) (hx : Below w.heap.size w wx) => aboveY_any a ca p b cb q x.natAbs y.natAbs wx (ha.pd.below hx) (hb.pd.below hx) ha.pcs hb.pcs)
  unfold whV
  obtain ⟨m, hm⟩ : ∃ m, m = p.length := ⟨_, rfl⟩
  obtain ⟨n, hn⟩ : ∃ m, m = q.length := ⟨_, rfl⟩
  rw [← hm, ← hn] at HX0 HAV HCX
  rw [← hm, ← hn]
  clear hm hn ha hb hab hbb
  go_enter Tryz.func91, Tryz.ntmps91
  go_upto_region 1 with fail
  obtain ⟨W0, hW0⟩ : ∃ W0, W0 = ((w.alloc (.cells #[.bool b1, .slice a m ca] 43)).alloc (.cells #[.bool b2, .slice b n cb] 43)).alloc (.cells #[.bool false, .slice none 0 0] 43) := ⟨_, rfl⟩
  rw [← hW0] at HX0 ⊢
  clear hW0
  have HBX := Lib.hid HX0
  have HLT := Lib.hid HX0.lt
  have k1 := HX0.one.neg
  have k2 := HX0.two.neg
  have k3 := HX0.one.dig
  have k4 := HX0.two.dig
  clear HX0
  have HCA := Lib.hid (show ∀ wx, Bw w wx b1 (.slice a m ca) b2 (.slice b n cb) → Calls Tryz.prog 120 #[.slice b n cb, .slice a m ca] wx fun e w' => ∃ (o : Option Addr) (c : Nat) (r : List Nat), e = .returned (.slice o r.length c) ∧ Pd w' o c r ∧ pv r = y.natAbs - x.natAbs ∧ NewO (w.heap.size + 1 + 1 + 1) o ∧ Below wx.heap.size wx w' from fun wx hx => (HCX.out wx hx.below).mono fun e w' ⟨o, c, r, h1, h2, h3, h4, h5⟩ => ⟨o, c, r, h1, h2, h3, h4.mono (by have := hx.lt; omega), h5⟩)
  obtain ⟨cc, hcc⟩ : ∃ cc, cc = cmpN x.natAbs y.natAbs := ⟨_, rfl⟩
  rw [← hcc] at HAV hcm
  clear HCX hcc
  go_wp2_with fail
  refine (HAV.out _ HBX.out.below).mono ?_
  rintro e wa ⟨rfl, hwa⟩
  have HBZ := Lib.hid (HBX.out.to hwa)
  clear hwa k1 k2 k3 k4 HAV
  have k1 := HBZ.out.one.neg
  have k2 := HBZ.out.two.neg
  have k3 := HBZ.out.one.dig
  have k4 := HBZ.out.two.dig
  go_wp2_with fail
  have Z0 := Lib.hid (HBZ.out.drewN 1)
  go_region_held3 (fun W => W.cell? ⟨w.heap.size, 0, none⟩ = some (.bool b1) ∧ W.cell? ⟨w.heap.size, 1, none⟩ = some (.slice a m ca) ∧ W.cell? ⟨w.heap.size + 1, 0, none⟩ = some (.bool b2) ∧ W.cell? ⟨w.heap.size + 1, 1, none⟩ = some (.slice b n cb)) (first | exact ⟨((Z2.out.one.other (p := ⟨w.heap.size + 1 + 1, 0, none⟩) (by show w.heap.size ≠ w.heap.size + 1 + 1; omega) _).other (p := ⟨w.heap.size + 1 + 1, 1, none⟩) (by show w.heap.size ≠ w.heap.size + 1 + 1; omega) _).neg, ((Z2.out.one.other (p := ⟨w.heap.size + 1 + 1, 0, none⟩) (by show w.heap.size ≠ w.heap.size + 1 + 1; omega) _).other (p := ⟨w.heap.size + 1 + 1, 1, none⟩) (by show w.heap.size ≠ w.heap.size + 1 + 1; omega) _).dig, ((Z2.out.two.other (p := ⟨w.heap.size + 1 + 1, 0, none⟩) (by show w.heap.size + 1 ≠ w.heap.size + 1 + 1; omega) _).other (p := ⟨w.heap.size + 1 + 1, 1, none⟩) (by show w.heap.size + 1 ≠ w.heap.size + 1 + 1; omega) _).neg, ((Z2.out.two.other (p := ⟨w.heap.size + 1 + 1, 0, none⟩) (by show w.heap.size + 1 ≠ w.heap.size + 1 + 1; omega) _).other (p := ⟨w.heap.size + 1 + 1, 1, none⟩) (by show w.heap.size + 1 ≠ w.heap.size + 1 + 1; omega) _).dig⟩ | exact ⟨Z2.out.one.neg, Z2.out.one.dig, Z2.out.two.neg, Z2.out.two.dig⟩ | exact ⟨Z1.out.one.neg, Z1.out.one.dig, Z1.out.two.neg, Z1.out.two.dig⟩ | exact ⟨Z0.out.one.neg, Z0.out.one.dig, Z0.out.two.neg, Z0.out.two.dig⟩) (first | (go_at_call 75; have hq1 := HP1.out; refine (trimY_any b2 o1 c1 r1 _ hq1).mono ?_; rintro e w2 ⟨rfl, h2⟩; have Z2 := Lib.hid (Z1.out.to h2); have HWT := Lib.hid ((Wh.trimmed b2 hq1 z HZV.out HZS.out).below h2); have f0 := Z2.out.res.free 0; have f1 := Z2.out.res.free 1; have e0 := Z2.out.res.neg; have e1 := Z2.out.res.dig; have Y1 := Z2.out.res.set0 (b2 && decide (0 < (trimP r1).length)); have y1 := Y1.free 1; have z1 := Y1.dig; have Y2 := Y1.set1 (.slice o1 (trimP r1).length c1); have u0 := Y2.neg; have u1 := Y2.dig; clear Y1 Y2 h2 hq1) | (go_at_call 120; refine (HCA.out _ ?hzz).mono ?_; (case hzz => exact Z0.out); rintro e w1 ⟨o1, c1, r1, rfl, hp1, hv1, hn1, h1⟩; have Z1 := Lib.hid (Z0.out.to h1); have HP1 := Lib.hid hp1; have HZV := Lib.hid (hv1.trans HVZ.out); have HNW := Lib.hid hn1; clear h1 hp1 hv1 hn1))
  all_goals (
    go_wp2_with fail
    (try simp only [Exit.inBlock, Exit.then])
    refine bodyPost_ret (v := .agg #[.bool (b2 && decide (0 < (trimP r1).length)), .slice o1 (trimP r1).length c1]) ?_ rfl ⟨⟨_, o1, c1, trimP r1, rfl, ((HWT.out.stored (w.heap.size + 1 + 1) 0 _ (HNW.out.ne (by have := HLT.out; omega))).stored (w.heap.size + 1 + 1) 1 _ (HNW.out.ne (by have := HLT.out; omega))), HNW.out.mono (by have := HLT.out; omega)⟩, (Z2.out.below.setCell (p := ⟨w.heap.size + 1 + 1, 0, none⟩) (by show w.heap.size ≤ w.heap.size + 1 + 1; omega) _).setCell (p := ⟨w.heap.size + 1 + 1, 1, none⟩) (by show w.heap.size ≤ w.heap.size + 1 + 1; omega) _⟩
    rw [results_cell_one rfl]
    go_simp)
theorem addWY_any (b1 : Bool) (a : Option Addr) (ca : Nat) (p : List Nat) (x : Int) (b2 : Bool) (b : Option Addr) (cb : Nat) (q : List Nat) (y : Int) (w : World) (ha : Wh w b1 a ca p x) (hb : Wh w b2 b cb q y) (hpl : p.length ≤ 50000) (hql : q.length ≤ 50000) :
    Calls Tryz.prog 91 #[whV b1 a ca p, whV b2 b cb q] w fun e w' => (∃ (b3 : Bool) (o : Option Addr) (c : Nat) (r : List Nat), e = .returned (whV b3 o c r) ∧ Wf w.heap.size w' b3 o c r (x + y)) ∧ Below w.heap.size w w' := by
  cases hc : (b1 == b2) with
  | true => exact addWY_same b1 a ca p x b2 b cb q y w ha hb hpl hql hc
  | false =>
    by_cases hg : y.natAbs ≤ x.natAbs
    · exact addWY_ge b1 a ca p x b2 b cb q y w ha hb hpl hql hc hg
    · exact addWY_lt b1 a ca p x b2 b cb q y w ha hb hpl hql hc (by omega)
end Go.Proofs.YtgkfdgdlmpggpaaGreatDoor

namespace Go.Proofs.YtgkfdgdlmpggpaaGreatDoor
open Go.RowKit

theorem Wh.len_le {w w' : World} {b b' : Bool} {o o' : Option Addr} {c c' : Nat} {L L' : List Nat} {z z' : Int} (h : Wh w b o c L z) (h' : Wh w' b' o' c' L' z') (hz : z.natAbs ≤ z'.natAbs) : L.length ≤ L'.length := Pcs.len_mono h'.pcs h.pcs hz
set_option maxHeartbeats 6400000 in
set_option maxRecDepth 100000 in
theorem subWY_any (b1 : Bool) (a : Option Addr) (ca : Nat) (p : List Nat) (x : Int) (b2 : Bool) (b : Option Addr) (cb : Nat) (q : List Nat) (y : Int) (w : World) (ha : Wh w b1 a ca p x) (hb : Wh w b2 b cb q y) (hpl : p.length ≤ 50000) (hql : q.length ≤ 50000) :
    Calls Tryz.prog 141 #[whV b1 a ca p, whV b2 b cb q] w fun e w' => (∃ (b3 : Bool) (o : Option Addr) (c : Nat) (r : List Nat), e = .returned (whV b3 o c r) ∧ Wf w.heap.size w' b3 o c r (x - y)) ∧ Below w.heap.size w w' := by
  have HX0 := Bw.new w b1 (.slice a p.length ca) b2 (.slice b q.length cb)
  have HNG := Lib.hid (fun (wx : World) (hx : Below w.heap.size w wx) => negWY_any b2 b cb q y wx (hb.below hx))
  have HAD := Lib.hid (fun (wx : World) (hx : Below w.heap.size w wx) (b3 : Bool) (r : List Nat) (hr : Wh wx b3 b cb r (-y)) => addWY_any b1 a ca p x b3 b cb r (-y) wx (ha.below hx) hr hpl (Nat.le_trans (hr.len_le hb (by rw [Int.natAbs_neg]; exact Nat.le_refl _)) hql))
  rw [show x + -y = x - y by omega] at HAD
  unfold whV at HNG HAD
  unfold whV
  obtain ⟨m, hm⟩ : ∃ m, m = p.length := ⟨_, rfl⟩
  obtain ⟨n, hn⟩ : ∃ m, m = q.length := ⟨_, rfl⟩
  rw [← hm] at HX0 HAD
  rw [← hn] at HX0 HNG
  rw [← hm, ← hn]
  clear hm hn ha hb hpl hql
  go_enter Tryz.func141, Tryz.ntmps141
  go_upto_region 1 with fail
  obtain ⟨W0, hW0⟩ : ∃ W0, W0 = ((w.alloc (.cells #[.bool b1, .slice a m ca] 43)).alloc (.cells #[.bool b2, .slice b n cb] 43)).alloc (.cells #[.bool false, .slice none 0 0] 43) := ⟨_, rfl⟩
  rw [← hW0] at HX0 ⊢
  clear hW0
  have HLT := Lib.hid HX0.lt
  have Z0 := Lib.hid (HX0.drewN 1)
  clear HX0
  go_region_held3 (fun W => W.cell? ⟨w.heap.size, 0, none⟩ = some (.bool b1) ∧ W.cell? ⟨w.heap.size, 1, none⟩ = some (.slice a m ca) ∧ W.cell? ⟨w.heap.size + 1, 0, none⟩ = some (.bool b2) ∧ W.cell? ⟨w.heap.size + 1, 1, none⟩ = some (.slice b n cb)) (first | exact ⟨((Z2.out.one.other (p := ⟨w.heap.size + 1 + 1, 0, none⟩) (by show w.heap.size ≠ w.heap.size + 1 + 1; omega) _).other (p := ⟨w.heap.size + 1 + 1, 1, none⟩) (by show w.heap.size ≠ w.heap.size + 1 + 1; omega) _).neg, ((Z2.out.one.other (p := ⟨w.heap.size + 1 + 1, 0, none⟩) (by show w.heap.size ≠ w.heap.size + 1 + 1; omega) _).other (p := ⟨w.heap.size + 1 + 1, 1, none⟩) (by show w.heap.size ≠ w.heap.size + 1 + 1; omega) _).dig, ((Z2.out.two.other (p := ⟨w.heap.size + 1 + 1, 0, none⟩) (by show w.heap.size + 1 ≠ w.heap.size + 1 + 1; omega) _).other (p := ⟨w.heap.size + 1 + 1, 1, none⟩) (by show w.heap.size + 1 ≠ w.heap.size + 1 + 1; omega) _).neg, ((Z2.out.two.other (p := ⟨w.heap.size + 1 + 1, 0, none⟩) (by show w.heap.size + 1 ≠ w.heap.size + 1 + 1; omega) _).other (p := ⟨w.heap.size + 1 + 1, 1, none⟩) (by show w.heap.size + 1 ≠ w.heap.size + 1 + 1; omega) _).dig⟩ | exact ⟨Z2.out.one.neg, Z2.out.one.dig, Z2.out.two.neg, Z2.out.two.dig⟩ | exact ⟨Z1.out.one.neg, Z1.out.one.dig, Z1.out.two.neg, Z1.out.two.dig⟩ | exact ⟨Z0.out.one.neg, Z0.out.one.dig, Z0.out.two.neg, Z0.out.two.dig⟩) (first | (go_at_call 91; refine (HAD.out _ ?hzz b3 r ?hyy).mono ?_; (case hzz => exact Z1.out.below); (case hyy => exact HR1.out); rintro e w2 ⟨⟨b4, o4, c4, r4, rfl, hwf⟩, h2⟩; have HLS := Lib.hid h2.size; have Z2 := Lib.hid (Z1.out.to h2); have HWT := Lib.hid hwf; have f0 := Z2.out.res.free 0; have f1 := Z2.out.res.free 1; have e0 := Z2.out.res.neg; have e1 := Z2.out.res.dig; have Y1 := Z2.out.res.set0 b4; have y1 := Y1.free 1; have z1 := Y1.dig; have Y2 := Y1.set1 (.slice o4 r4.length c4); have u0 := Y2.neg; have u1 := Y2.dig; clear Y1 Y2 h2 hwf) | (go_at_call 53; refine (HNG.out _ ?hzz).mono ?_; (case hzz => exact Z0.out.below); rintro e w1 ⟨⟨b3, r, rfl, hr⟩, h1⟩; have Z1 := Lib.hid (Z0.out.to h1); have HR1 := Lib.hid hr; clear h1 hr))
  all_goals (
    go_wp2_with fail
    (try simp only [Exit.inBlock, Exit.then])
    refine bodyPost_ret (v := .agg #[.bool b4, .slice o4 r4.length c4]) ?_ rfl ⟨⟨b4, o4, c4, r4, rfl, ((HWT.out.mono (show w.heap.size + 1 + 1 + 1 ≤ w1.heap.size by have := Z1.out.lt; omega)).stored 0 _ (by omega)).stored 1 _ (by omega) |>.mono (by omega)⟩, (Z2.out.below.setCell (p := ⟨w.heap.size + 1 + 1, 0, none⟩) (by show w.heap.size ≤ w.heap.size + 1 + 1; omega) _).setCell (p := ⟨w.heap.size + 1 + 1, 1, none⟩) (by show w.heap.size ≤ w.heap.size + 1 + 1; omega) _⟩
    rw [results_cell_one rfl]
    go_simp)
/-- two boxes -/
structure Bv (w W : World) (b1 : Bool) (v1 : Value) (b2 : Bool) (v2 : Value) : Prop where
  below : Below w.heap.size w W
  one : BxO W w.heap.size w.heap.size b1 v1
  two : BxO W w.heap.size (w.heap.size + 1) b2 v2
theorem Bv.to {w W W' : World} {b1 : Bool} {v1 : Value} {b2 : Bool} {v2 : Value} (h : Bv w W b1 v1 b2 v2) (hb : Below W.heap.size W W') : Bv w W' b1 v1 b2 v2 :=
  ⟨h.below.trans (hb.mono h.below.size), h.one.kept hb, h.two.kept hb⟩
theorem Bv.new (w : World) (b1 : Bool) (v1 : Value) (b2 : Bool) (v2 : Value) : Bv w ((w.alloc (.cells #[.bool b1, v1] 43)).alloc (.cells #[.bool b2, v2] 43)) b1 v1 b2 v2 := by
  have h1 := BxO.new (w.alloc (.cells #[.bool b1, v1] 43)) w.heap.size (by rw [push_size]; omega) b2 v2
  rw [push_size] at h1
  exact ⟨((Below.refl _ w).alloc (Nat.le_refl _) _).alloc (by rw [push_size]; omega) _, (BxO.new w w.heap.size (Nat.le_refl _) b1 v1).alloc _, h1⟩
set_option maxHeartbeats 1600000 in
theorem cmpWY_any (b1 : Bool) (a : Option Addr) (ca : Nat) (p : List Nat) (x : Int) (b2 : Bool) (b : Option Addr) (cb : Nat) (q : List Nat) (y : Int) (w : World) (ha : Wh w b1 a ca p x) (hb : Wh w b2 b cb q y) (hpl : p.length ≤ 50000) (hql : q.length ≤ 50000) :
    Calls Tryz.prog 101 #[whV b1 a ca p, whV b2 b cb q] w fun e w' => e = .returned (.int .i64 (cmpZ x y)) ∧ Below w.heap.size w w' := by
  have HX0 := Bv.new w b1 (.slice a p.length ca) b2 (.slice b q.length cb)
  have HSB := Lib.hid (fun (wx : World) (hx : Below w.heap.size w wx) => subWY_any b1 a ca p x b2 b cb q y wx (ha.below hx) (hb.below hx) hpl hql)
  have HCZ := Lib.hid (cmpZ_sgn x y)
  unfold whV at HSB
  unfold whV
  obtain ⟨m, hm⟩ : ∃ m, m = p.length := ⟨_, rfl⟩
  obtain ⟨n, hn⟩ : ∃ m, m = q.length := ⟨_, rfl⟩
  rw [← hm, ← hn] at HX0 HSB
  rw [← hm, ← hn]
  clear hm hn ha hb hpl hql
  go_enter Tryz.func101, Tryz.ntmps101
  go_upto_region 1 with fail
  obtain ⟨W0, hW0⟩ : ∃ W0, W0 = (w.alloc (.cells #[.bool b1, .slice a m ca] 43)).alloc (.cells #[.bool b2, .slice b n cb] 43) := ⟨_, rfl⟩
  rw [← hW0] at HX0 ⊢
  clear hW0
  have k1 := HX0.one.neg
  have k2 := HX0.two.neg
  have k3 := HX0.one.dig
  have k4 := HX0.two.dig
  have B0 := Lib.hid HX0.below
  clear HX0
  go_wp2_with fail
  refine (HSB.out _ B0.out).mono ?_
  rintro e w1 ⟨⟨b3, o3, c3, r3, rfl, hwf⟩, h1⟩
  have B1 := Lib.hid (B0.out.trans (h1.mono B0.out.size))
  have HSG := Lib.hid (signWY_any b3 o3 c3 r3 (x - y) w1 hwf.wh)
  rw [← HCZ.out] at HSG
  clear h1 hwf
  try unfold whV
  go_wp2_with fail
  refine HSG.out.mono ?_
  rintro e w2 ⟨rfl, h2⟩
  have B2 := Lib.hid (B1.out.trans (h2.mono B1.out.size))
  clear h2
  go_wp2_with fail
  go_ret
  exact ⟨rfl, B2.out⟩
end Go.Proofs.YtgkfdgdlmpggpaaGreatDoor
