/-
  Texts of one seat, joined: YMk.
-/
import Derived.Test.YtdgbplppabalgaaGreatDoorJ24
import Derived.Test.YtdgbplppabalgaaGreatDoorJ26
import Derived.Test.YtdgbplppabalgaaGreatDoorJ15
import Derived.Test.YtdgbplppabalgaaGreatDoorJ31
namespace Go.Proofs.YtdgbplppabalgaaGreatDoor
open Go.RowKit

/-- two boxes and the cell of a fraction -/
structure Bm (w W : World) (b1 : Bool) (v1 : Value) (b2 : Bool) (v2 : Value) : Prop where
  below : Below w.heap.size w W
  one : BxO W w.heap.size w.heap.size b1 v1
  two : BxO W w.heap.size (w.heap.size + 1) b2 v2
  res : BxT W w.heap.size (w.heap.size + 1 + 1) 24 (.string ⟨#[]⟩) (.string ⟨#[]⟩)
theorem Bm.to {w W W' : World} {b1 : Bool} {v1 : Value} {b2 : Bool} {v2 : Value} (h : Bm w W b1 v1 b2 v2) (hb : Below W.heap.size W W') : Bm w W' b1 v1 b2 v2 :=
  ⟨h.below.trans (hb.mono h.below.size), h.one.kept hb, h.two.kept hb, h.res.kept hb⟩
theorem Bm.new (w : World) (b1 : Bool) (v1 : Value) (b2 : Bool) (v2 : Value) : Bm w (((w.alloc (.cells #[.bool b1, v1] 43)).alloc (.cells #[.bool b2, v2] 43)).alloc (.cells #[.string ⟨#[]⟩, .string ⟨#[]⟩] 24)) b1 v1 b2 v2 := by
  have h1 := BxO.new (w.alloc (.cells #[.bool b1, v1] 43)) w.heap.size (by rw [push_size]; omega) b2 v2
  have h2 := BxT.new ((w.alloc (.cells #[.bool b1, v1] 43)).alloc (.cells #[.bool b2, v2] 43)) w.heap.size (by rw [push_size, push_size]; omega) 24 (.string ⟨#[]⟩) (.string ⟨#[]⟩)
  rw [push_size] at h1
  rw [push_size, push_size] at h2
  exact ⟨(((Below.refl _ w).alloc (Nat.le_refl _) _).alloc (by rw [push_size]; omega) _).alloc (by rw [push_size, push_size]; omega) _, ((BxO.new w w.heap.size (Nat.le_refl _) b1 v1).alloc _).alloc _, h1.alloc _, h2⟩
theorem Bm.lt {w W : World} {b1 : Bool} {v1 : Value} {b2 : Bool} {v2 : Value} (h : Bm w W b1 v1 b2 v2) : w.heap.size + 3 ≤ W.heap.size := by have := h.res.lt.2; omega
theorem BxT.otherY {w : World} {B g : Nat} {T : TypeId} {u v : Value} (h : BxT w B g T u v) {p : Addr} (hp : g ≠ p.block) (x : Value) : BxT (w.setCell p x) B g T u v := ownsRow_setCell_other h (by simp [Value.ownBlock]; exact hp) x
theorem Bm.set1 {w W : World} {b1 : Bool} {v1 : Value} {b2 : Bool} {v2 : Value} (h : Bm w W b1 v1 b2 v2) (x : Bool) : Bm w (W.setCell ⟨w.heap.size, 0, none⟩ (.bool x)) x v1 b2 v2 :=
  ⟨h.below.setCell (Nat.le_refl _) _, h.one.set0 x, h.two.other (by show w.heap.size + 1 ≠ w.heap.size; omega) _, h.res.otherY (by show w.heap.size + 1 + 1 ≠ w.heap.size; omega) _⟩
theorem Bm.set2 {w W : World} {b1 : Bool} {v1 : Value} {b2 : Bool} {v2 : Value} (h : Bm w W b1 v1 b2 v2) (x : Value) : Bm w (W.setCell ⟨w.heap.size, 1, none⟩ x) b1 x b2 v2 :=
  ⟨h.below.setCell (Nat.le_refl _) _, h.one.set1 x, h.two.other (by show w.heap.size + 1 ≠ w.heap.size; omega) _, h.res.otherY (by show w.heap.size + 1 + 1 ≠ w.heap.size; omega) _⟩
theorem Bm.set3 {w W : World} {b1 : Bool} {v1 : Value} {b2 : Bool} {v2 : Value} (h : Bm w W b1 v1 b2 v2) (x : Bool) : Bm w (W.setCell ⟨w.heap.size + 1, 0, none⟩ (.bool x)) b1 v1 x v2 :=
  ⟨h.below.setCell (by show w.heap.size ≤ w.heap.size + 1; omega) _, h.one.other (by show w.heap.size ≠ w.heap.size + 1; omega) _, h.two.set0 x, h.res.otherY (by show w.heap.size + 1 + 1 ≠ w.heap.size + 1; omega) _⟩
theorem Bm.set4 {w W : World} {b1 : Bool} {v1 : Value} {b2 : Bool} {v2 : Value} (h : Bm w W b1 v1 b2 v2) (x : Value) : Bm w (W.setCell ⟨w.heap.size + 1, 1, none⟩ x) b1 v1 b2 x :=
  ⟨h.below.setCell (by show w.heap.size ≤ w.heap.size + 1; omega) _, h.one.other (by show w.heap.size ≠ w.heap.size + 1; omega) _, h.two.set1 x, h.res.otherY (by show w.heap.size + 1 + 1 ≠ w.heap.size + 1; omega) _⟩
set_option maxHeartbeats 12800000 in
set_option maxRecDepth 100000 in
theorem makeY_pos (b1 : Bool) (a : Option Addr) (ca : Nat) (p : List Nat) (x : Int) (b2 : Bool) (b : Option Addr) (cb : Nat) (q : List Nat) (y : Int) (w : World) (hs : Std w) (ha : Wh w b1 a ca p x) (hb : Wh w b2 b cb q y) (hy : 0 < y) (hpl : p.length ≤ 20000) (hql : q.length ≤ 20000) :
    Calls Tryz.prog 24 #[whV b1 a ca p, whV b2 b cb q] w fun e w' => e = .returned (ratV (zS (newN x y)) (str (newD x y))) ∧ Below w.heap.size w w' := by
  have HX0 := Bm.new w b1 (.slice a p.length ca) b2 (.slice b q.length cb)
  have HS := Lib.hid hs
  have HA := Lib.hid ha
  have HB := Lib.hid hb
  have HSG := Lib.hid (fun (wx : World) (hx : Below w.heap.size w wx) => signWY_any b2 b cb q y wx (hb.below hx))
  have HYS := Lib.hid (fun (h : ¬ y < 0) => (show newN x y = lowN x y.natAbs ∧ newD x y = lowD x y.natAbs by unfold newN newD; rw [if_neg h, if_neg h]; exact ⟨rfl, rfl⟩))
  have HYN := Lib.hid (fun (h : y < 0) => (show newN x y = lowN (-x) y.natAbs ∧ newD x y = lowD (-x) y.natAbs by unfold newN newD; rw [if_pos h, if_pos h]; exact ⟨rfl, rfl⟩))
  have HPQ := Lib.hid (show p.length ≤ 20000 ∧ q.length ≤ 20000 from ⟨hpl, hql⟩)
  obtain ⟨NN, hNN⟩ : ∃ t, t = newN x y := ⟨_, rfl⟩
  obtain ⟨DD, hDD⟩ : ∃ t, t = newD x y := ⟨_, rfl⟩
  rw [← hNN, ← hDD] at HYS HYN
  obtain ⟨ns, hns⟩ : ∃ s, s = zS NN := ⟨_, rfl⟩
  obtain ⟨ds, hds⟩ : ∃ s, s = str DD := ⟨_, rfl⟩
  have HNS := Lib.hid hns
  have HDS := Lib.hid hds
  rw [← hNN, ← hDD, ← hns, ← hds]
  unfold whV at HSG
  unfold whV
  obtain ⟨m, hm⟩ : ∃ m, m = p.length := ⟨_, rfl⟩
  obtain ⟨n, hn⟩ : ∃ m, m = q.length := ⟨_, rfl⟩
  have HM := Lib.hid hm
  have HN := Lib.hid hn
  rw [← hm, ← hn] at HX0
  rw [← hn] at HSG
  rw [← hm, ← hn]
  have HGO := Lib.hid (hb.pd.out (show w.heap.size ≤ w.heap.size + 1 + 1 by omega))
  clear hm hn hNN hDD ha hb hs hpl hql hns hds
  go_enter Tryz.func24, Tryz.ntmps24
  go_upto_region 1 with fail
  obtain ⟨W0, hW0⟩ : ∃ W0, W0 = ((w.alloc (.cells #[.bool b1, .slice a m ca] 43)).alloc (.cells #[.bool b2, .slice b n cb] 43)).alloc (.cells #[.string ⟨#[]⟩, .string ⟨#[]⟩] 24) := ⟨_, rfl⟩
  rw [← hW0] at HX0 ⊢
  clear hW0
  have hd : decide (sgnI y < 0) = false := decide_eq_false (by rcases sgnI_ways y with ⟨h, e⟩ | ⟨h, e⟩ | ⟨h, e⟩ <;> omega)
  have HY2 := Lib.hid (HYS.out (by omega))
  obtain ⟨sy, hsy⟩ : ∃ s, s = sgnI y := ⟨_, rfl⟩
  rw [← hsy] at hd HSG
  have k1 := HX0.two.neg
  have k2 := HX0.two.dig
  have Z0 := Lib.hid HX0
  clear HX0 hsy HYS HYN
  go_wp2_with fail
  refine (HSG.out _ Z0.out.below).mono ?_
  rintro e wc ⟨rfl, h1⟩
  have Z1 := Lib.hid (Z0.out.to h1)
  clear h1 k1 k2 HSG
  go_upto_region 3 with fail
  obtain ⟨b3, hb3⟩ : ∃ b, b = b1 := ⟨_, rfl⟩
  have hbm : Bm w wc b1 (.slice a p.length ca) b2 (.slice b q.length cb) := by rw [← HM.out, ← HN.out]; exact Z1.out
  obtain ⟨y4, hy4e⟩ : ∃ y4 : Nat, (y4 : Int) = y := ⟨y.natAbs, by omega⟩
  have hw3 : Wh wc b1 a ca p x := HA.out.below Z1.out.below
  have hw4 : Wh wc b2 b cb q (y4 : Int) := by rw [hy4e]; exact HB.out.below Z1.out.below
  have hy4 : 0 < y4 := by omega
  have hya : y.natAbs = y4 := by omega
  rw [hya] at HY2
  have HNE := Lib.hid HY2.out.1
  have HDE := Lib.hid HY2.out.2
  have hp := HPQ.out.1
  have hq := HPQ.out.2
  have Z2 := Lib.hid hbm
  have A2 := Lib.hid hw3
  have B2 := Lib.hid hw4
  clear hbm Z1 Z0 HA HB HY2 HPQ hy4e hya hb3 b3 hd
  have hlc3 := hw3.pd.lc
  have hlm3 := hw3.pd.lim
  have hlc4 := hw4.pd.lc
  have hlm4 := hw4.pd.lim
  have B4E := Lib.hid hw4.neg
  clear hw3 hw4
  have k1 := Z2.out.one.dig
  have k2 := Z2.out.two.dig
  obtain ⟨m3, hm3⟩ : ∃ m, m = p.length := ⟨_, rfl⟩
  obtain ⟨n4, hn4⟩ : ∃ m, m = q.length := ⟨_, rfl⟩
  have HM3 := Lib.hid hm3
  have HN4 := Lib.hid hn4
  have hz2 := Z2.out
  rw [← hm3, ← hn4] at hz2
  rw [← hm3] at k1 hp hlc3
  rw [← hn4] at k2 hq hlc4
  clear Z2
  have Z2 := Lib.hid hz2
  clear hz2 hm3 hn4
  have hn40 : n4 ≠ 0 := by
    intro h
    have h1 := B2.out.len_zero.1 (by rw [← HN4.out]; exact h)
    omega
  by_cases hc : m3 ≤ 1 ∧ n4 = 1
  · have hd1 : decide ((m3 : Int) ≤ 1) = true := decide_eq_true (by omega)
    have hd2 : ((n4 : Int) == 1) = true := by rw [beq_iff_eq]; omega
    obtain ⟨hq1, hq9, hqp⟩ := len_oneL B2.out.pcs (by rw [← HN4.out]; exact hc.2)
    rw [Int.natAbs_natCast] at hq1 hq9 hqp
    obtain ⟨g, hg, hce⟩ := B2.out.pd.at 0 (by rw [hq1]; exact Nat.one_pos)
    rw [hq1] at hce
    have hce2 : wc.cell? ⟨g, 0, none⟩ = some (.int .i64 (y4 : Int)) := hce
    have hgl := B2.out.pd.lt g hg
    have hgne := (B2.out.pd)
    subst hg
    have HLI := Lib.hid (fun (wx : World) hw (hx : Below wc.heap.size wc wx) => littleY_any b1 a ca p x y4 wx hw (A2.out.below hx) (by rw [← HM3.out]; exact hc.1) hy4 hq9)
    rw [← HNE.out, ← HDE.out] at HLI
    unfold whV at HLI
    rw [← HM3.out] at HLI
    rw [← HNS.out, ← HDS.out] at HLI
    have HGN := Lib.hid (show g ≠ w.heap.size + 1 + 1 from HGO.out g rfl)
    have n41 : n4 = 1 := hc.2
    subst n41
    clear hq1 hce hc hgne hn40
    go_wp2_with fail
    have Y0 := Lib.hid (Z2.out.to (Below.drew (Below.refl _ _)))
    have c0 := Lib.hid hce2
    go_region_held3 (fun W => W.cell? ⟨w.heap.size, 0, none⟩ = some (.bool b1) ∧ W.cell? ⟨w.heap.size, 1, none⟩ = some (.slice a m3 ca) ∧ W.cell? ⟨w.heap.size + 1, 1, none⟩ = some (.slice (some ⟨g, 0, none⟩) 1 cb) ∧ W.cell? ⟨g, 0, none⟩ = some (.int .i64 (y4 : Int))) (first | exact ⟨T1.out.1, T1.out.2.1, T1.out.2.2, by rw [World.cell?_setCell_far _ _ _ _ (by show w.heap.size + 1 + 1 ≠ g; exact HGN.out.symm), World.cell?_setCell_far _ _ _ _ (by show w.heap.size + 1 + 1 ≠ g; exact HGN.out.symm)]; exact c1.out⟩ | exact ⟨Y1.out.one.neg, Y1.out.one.dig, Y1.out.two.dig, c1.out⟩ | exact ⟨Y0.out.one.neg, Y0.out.one.dig, Y0.out.two.dig, c0.out⟩) (first | (go_at_call 73; refine (HLI.out _ ?hss ?hxx).mono ?_; (case hss => exact HS.out.below Y0.out.below); (case hxx => exact Below.drew (Below.refl _ _)); rintro e w3 ⟨rfl, h3⟩; have Y1 := Lib.hid (Y0.out.to h3); have c1 := Lib.hid (show w3.cell? ⟨g, 0, none⟩ = some (.int .i64 (y4 : Int)) by rw [h3.cell (p := ⟨g, 0, none⟩) hgl]; exact c0.out); have hz := Y1.out; have f0 := hz.res.free 0; have e0 := hz.res.c0; have e1 := hz.res.c1; have S0 := hz.res.set0 (.string ns); have S1 := S0.set1 (.string ds); have f1 := S0.free 1; have g1 := S0.c1; have u0 := S1.c0; have u1 := S1.c1; have T1 := Lib.hid (show _ ∧ _ ∧ _ from ⟨((hz.one.other (p := ⟨w.heap.size + 1 + 1, 0, none⟩) (by show w.heap.size ≠ w.heap.size + 1 + 1; omega) (.string ns)).other (p := ⟨w.heap.size + 1 + 1, 1, none⟩) (by show w.heap.size ≠ w.heap.size + 1 + 1; omega) (.string ds)).neg, ((hz.one.other (p := ⟨w.heap.size + 1 + 1, 0, none⟩) (by show w.heap.size ≠ w.heap.size + 1 + 1; omega) (.string ns)).other (p := ⟨w.heap.size + 1 + 1, 1, none⟩) (by show w.heap.size ≠ w.heap.size + 1 + 1; omega) (.string ds)).dig, ((hz.two.other (p := ⟨w.heap.size + 1 + 1, 0, none⟩) (by show w.heap.size + 1 ≠ w.heap.size + 1 + 1; omega) (.string ns)).other (p := ⟨w.heap.size + 1 + 1, 1, none⟩) (by show w.heap.size + 1 ≠ w.heap.size + 1 + 1; omega) (.string ds)).dig⟩); have HBE := Lib.hid ((hz.below.setCell (p := ⟨w.heap.size + 1 + 1, 0, none⟩) (by show w.heap.size ≤ w.heap.size + 1 + 1; omega) (.string ns)).setCell (p := ⟨w.heap.size + 1 + 1, 1, none⟩) (by show w.heap.size ≤ w.heap.size + 1 + 1; omega) (.string ds)); clear hz S0 S1 h3))
    all_goals (
      go_wp2_with fail
      (try simp only [Exit.inBlock, Exit.then])
      refine bodyPost_ret (v := ratV ns ds) ?_ rfl ⟨rfl, HBE.out⟩
      rw [results_cell_one rfl]
      go_simp)
  · have HGW := Lib.hid (fun (wx : World) (hx : Below wc.heap.size wc wx) => gcdWY_any b1 a ca p x b2 b cb q (y4 : Int) wx (A2.out.below hx) (B2.out.below hx) (by rw [← HM3.out]; exact hp) (by rw [← HN4.out]; exact hq))
    unfold whV at HGW
    rw [← HM3.out, ← HN4.out] at HGW
    have HMC := Lib.hid (show (m3 ≤ 1 → n4 ≠ 1) from fun h1 h2 => hc ⟨h1, h2⟩)
    have hcd : (decide ((m3 : Int) ≤ 1) = false) ∨ (decide ((m3 : Int) ≤ 1) = true ∧ ((n4 : Int) == 1) = false) := by
      by_cases h1 : m3 ≤ 1
      · refine .inr ⟨decide_eq_true (by omega), ?_⟩
        rw [beq_eq_false_iff_ne]; intro h2; exact hc ⟨h1, by omega⟩
      · exact .inl (decide_eq_false (by omega))
    clear hc HMC
    rcases hcd with hd1 | ⟨hd1, hd2⟩
    · have k3 := Z2.out.one.neg
      have k4 := Z2.out.two.neg
      have HST := Lib.hid (HS.out.below Z2.out.below)
      go_upto_region 5 with fail
      go_wp2_with fail
      refine (HGW.out _ (Below.refl _ _)).mono ?_
      rintro e w3 ⟨⟨og, cg, rg, rfl, hwg, horg⟩, h3⟩
      have Z3 := Lib.hid (Z2.out.to h3)
      have A3 := Lib.hid (A2.out.below h3)
      have B3 := Lib.hid (B2.out.below h3)
      obtain ⟨G, hG⟩ : ∃ G, G = Nat.gcd x.natAbs y4 := ⟨_, rfl⟩
      rw [Int.natAbs_natCast, ← hG] at hwg
      have HGG := Lib.hid hG
      have hGp : 0 < G := by rw [hG]; exact Nat.gcd_pos_of_pos_right _ hy4
      have GW := Lib.hid hwg
      have hgl : rg.length ≤ 20000 := Nat.le_trans (hwg.len_le B2.out (by rw [Int.natAbs_natCast, Int.natAbs_natCast, hG]; exact Nat.gcd_le_right _ hy4)) (by rw [← HN4.out]; exact hq)
      have hgc := hwg.pd.lc
      have hgm := hwg.pd.lim
      clear hG hwg horg h3 k1 k2 k3 k4 HGW
      obtain ⟨kg, hkg⟩ : ∃ k, k = rg.length := ⟨_, rfl⟩
      have HKG := Lib.hid hkg
      rw [← hkg] at hgl hgc ⊢
      clear hkg
      go_upto_region 6 with fail
      have GX := Lib.hid (BxO.new w3 w.heap.size Z3.out.below.size false (.slice og kg cg))
      have HGA := Lib.hid ((Below.refl w3.heap.size w3).alloc (Nat.le_refl _) (.cells #[.bool false, .slice og kg cg] 43))
      obtain ⟨g5, hg5⟩ : ∃ g5, g5 = w3.heap.size := ⟨_, rfl⟩
      obtain ⟨W4, hW4⟩ : ∃ W4, W4 = w3.alloc (.cells #[.bool false, .slice og kg cg] 43) := ⟨_, rfl⟩
      rw [← hW4] at GX HGA ⊢
      have hga := HGA.out
      have Z4 := Lib.hid (Z3.out.to hga)
      have A4 := Lib.hid (A3.out.below hga)
      have B4 := Lib.hid (B3.out.below hga)
      have G4 := Lib.hid (GW.out.below hga)
      have GY := GX.out
      rw [← hg5] at GY ⊢
      have GX4 := Lib.hid GY
      clear hW4 hg5 hga HGA GX GY Z3 A3 B3 GW
      have k1 := Z4.out.one.dig
      have k2 := Z4.out.two.dig
      have k3 := GX4.out.dig
      have HD1 := Lib.hid (divideY_any a ca p og cg rg x.natAbs G W4 A4.out.pd G4.out.pd A4.out.pcs (by have := G4.out.pcs; rw [Int.natAbs_natCast] at this; exact this) hGp (by rw [← HM3.out]; omega) (by rw [← HKG.out]; omega))
      have HD2 := Lib.hid (fun (wx : World) (hx : Below W4.heap.size W4 wx) => divideY_any b cb q og cg rg y4 G wx (B4.out.pd.below hx) (G4.out.pd.below hx) (by have := B4.out.pcs; rw [Int.natAbs_natCast] at this; exact this) (by have := G4.out.pcs; rw [Int.natAbs_natCast] at this; exact this) hGp (by rw [← HN4.out]; omega) (by rw [← HKG.out]; omega))
      rw [← HM3.out, ← HKG.out] at HD1
      rw [← HN4.out, ← HKG.out] at HD2
      go_wp2_with fail
      refine HD1.out.mono ?_
      rintro e w5 ⟨⟨o5, c5, r5, o6, c6, r6, rfl, hp5, hq5, hn5, -, -, -⟩, h5⟩
      have Z5 := Lib.hid (Z4.out.to h5)
      have GX5 := Lib.hid (GX4.out.kept h5)
      have D5 := Lib.hid hp5
      have Q5 := Lib.hid hq5
      have H5 := Lib.hid h5
      clear hp5 hq5 hn5 h5 k1 k2 k3 HD1
      have k1 := Z5.out.two.dig
      have k2 := GX5.out.dig
      go_wp2_with fail
      refine (HD2.out _ H5.out).mono ?_
      rintro e w6 ⟨⟨o7, c7, r7, o8, c8, r8, rfl, hp7, hq7, hn7, -, -, -⟩, h6⟩
      have Z6 := Lib.hid (Z5.out.to h6)
      have D6 := Lib.hid (D5.out.below h6)
      have D7 := Lib.hid hp7
      have Q7 := Lib.hid hq7
      clear hp7 hq7 hn7 h6 k1 k2 HD2 D5
      have k1 := Z6.out.one.neg
      have hLE := low_abs x y4
      rw [← HGG.out] at hLE
      have hWT := Wh.trimmed b1 D6.out (lowN x y4) (by rw [Q5.out.val]; exact hLE.symm) (fun h0 => by rw [A2.out.neg]; exact low_neg x y4 h0)
      rw [← HNE.out] at hWT
      have HWT := Lib.hid hWT
      have HTR := Lib.hid (trimY_any b1 o5 c5 r5 w6 D6.out)
      have hrl5 : (trimP r5).length ≤ 100000 := Nat.le_trans (trimP_props r5).2.2.2.1 (Nat.le_trans (Pcs.len_mono A2.out.pcs Q5.out (Nat.div_le_self _ _)) (by rw [← HM3.out]; omega))
      have hrl7 : r7.length ≤ 100000 := Nat.le_trans (Pcs.len_mono B2.out.pcs Q7.out (by rw [Int.natAbs_natCast]; exact Nat.div_le_self _ _)) (by rw [← HN4.out]; omega)
      have HF7 := Lib.hid (fun (wx : World) hw (hx : Below w6.heap.size w6 wx) => fromY_any false o7 c7 r7 ((y4 / G : Nat) : Int) wx hw (Wh.ofNat (D7.out.below hx) Q7.out) hrl7)
      have hDL : str DD = zS ((y4 / G : Nat) : Int) := by rw [zS_of_nat, HDE.out]; unfold lowD; rw [← HGG.out]
      rw [← hDL] at HF7
      unfold whV at HTR HF7
      have HF5 := Lib.hid (fun (wx : World) hw (hx : Below w6.heap.size w6 wx) => fromY_any (b1 && decide (0 < (trimP r5).length)) o5 c5 (trimP r5) NN wx hw (HWT.out.below hx) hrl5)
      unfold whV at HF5
      rw [← HNS.out] at HF5
      rw [← HDS.out] at HF7
      clear hDL hLE hWT hrl5 hrl7
      go_wp2_with fail
      refine HTR.out.mono ?_
      rintro e w7 ⟨rfl, h7⟩
      have Z7 := Lib.hid (Z6.out.to h7)
      have H7 := Lib.hid h7
      clear h7
      go_wp2_with fail
      refine (HF5.out _ (HS.out.below Z7.out.below) H7.out).mono ?_
      rintro e w8 ⟨rfl, h8⟩
      have Z8 := Lib.hid (Z7.out.to h8)
      have H8 := Lib.hid (H7.out.trans (h8.mono H7.out.size))
      clear h8
      go_wp2_with fail
      refine (HF7.out _ (HS.out.below Z8.out.below) H8.out).mono ?_
      rintro e w9 ⟨rfl, h9⟩
      have Z9 := Z8.out.to h9
      have f0 := Z9.res.free 0
      have e0 := Z9.res.c0
      have e1 := Z9.res.c1
      have S0 := Z9.res.set0 (.string ns)
      have S1 := S0.set1 (.string ds)
      have f1 := S0.free 1
      have g1 := S0.c1
      have u0 := S1.c0
      have u1 := S1.c1
      have HBE := Lib.hid ((Z9.below.setCell (p := ⟨w.heap.size + 1 + 1, 0, none⟩) (by show w.heap.size ≤ w.heap.size + 1 + 1; omega) (.string ns)).setCell (p := ⟨w.heap.size + 1 + 1, 1, none⟩) (by show w.heap.size ≤ w.heap.size + 1 + 1; omega) (.string ds))
      clear S0 S1 h9 Z9
      go_wp2_with fail
      (try simp only [Exit.inBlock, Exit.then])
      refine bodyPost_ret (v := ratV ns ds) ?_ rfl ⟨rfl, HBE.out⟩
      rw [results_cell_one rfl]
      go_simp
    · have k3 := Z2.out.one.neg
      have k4 := Z2.out.two.neg
      have HST := Lib.hid (HS.out.below Z2.out.below)
      go_upto_region 5 with fail
      go_wp2_with fail
      refine (HGW.out _ (Below.refl _ _)).mono ?_
      rintro e w3 ⟨⟨og, cg, rg, rfl, hwg, horg⟩, h3⟩
      have Z3 := Lib.hid (Z2.out.to h3)
      have A3 := Lib.hid (A2.out.below h3)
      have B3 := Lib.hid (B2.out.below h3)
      obtain ⟨G, hG⟩ : ∃ G, G = Nat.gcd x.natAbs y4 := ⟨_, rfl⟩
      rw [Int.natAbs_natCast, ← hG] at hwg
      have HGG := Lib.hid hG
      have hGp : 0 < G := by rw [hG]; exact Nat.gcd_pos_of_pos_right _ hy4
      have GW := Lib.hid hwg
      have hgl : rg.length ≤ 20000 := Nat.le_trans (hwg.len_le B2.out (by rw [Int.natAbs_natCast, Int.natAbs_natCast, hG]; exact Nat.gcd_le_right _ hy4)) (by rw [← HN4.out]; exact hq)
      have hgc := hwg.pd.lc
      have hgm := hwg.pd.lim
      clear hG hwg horg h3 k1 k2 k3 k4 HGW
      obtain ⟨kg, hkg⟩ : ∃ k, k = rg.length := ⟨_, rfl⟩
      have HKG := Lib.hid hkg
      rw [← hkg] at hgl hgc ⊢
      clear hkg
      go_upto_region 6 with fail
      have GX := Lib.hid (BxO.new w3 w.heap.size Z3.out.below.size false (.slice og kg cg))
      have HGA := Lib.hid ((Below.refl w3.heap.size w3).alloc (Nat.le_refl _) (.cells #[.bool false, .slice og kg cg] 43))
      obtain ⟨g5, hg5⟩ : ∃ g5, g5 = w3.heap.size := ⟨_, rfl⟩
      obtain ⟨W4, hW4⟩ : ∃ W4, W4 = w3.alloc (.cells #[.bool false, .slice og kg cg] 43) := ⟨_, rfl⟩
      rw [← hW4] at GX HGA ⊢
      have hga := HGA.out
      have Z4 := Lib.hid (Z3.out.to hga)
      have A4 := Lib.hid (A3.out.below hga)
      have B4 := Lib.hid (B3.out.below hga)
      have G4 := Lib.hid (GW.out.below hga)
      have GY := GX.out
      rw [← hg5] at GY ⊢
      have GX4 := Lib.hid GY
      clear hW4 hg5 hga HGA GX GY Z3 A3 B3 GW
      have k1 := Z4.out.one.dig
      have k2 := Z4.out.two.dig
      have k3 := GX4.out.dig
      have HD1 := Lib.hid (divideY_any a ca p og cg rg x.natAbs G W4 A4.out.pd G4.out.pd A4.out.pcs (by have := G4.out.pcs; rw [Int.natAbs_natCast] at this; exact this) hGp (by rw [← HM3.out]; omega) (by rw [← HKG.out]; omega))
      have HD2 := Lib.hid (fun (wx : World) (hx : Below W4.heap.size W4 wx) => divideY_any b cb q og cg rg y4 G wx (B4.out.pd.below hx) (G4.out.pd.below hx) (by have := B4.out.pcs; rw [Int.natAbs_natCast] at this; exact this) (by have := G4.out.pcs; rw [Int.natAbs_natCast] at this; exact this) hGp (by rw [← HN4.out]; omega) (by rw [← HKG.out]; omega))
      rw [← HM3.out, ← HKG.out] at HD1
      rw [← HN4.out, ← HKG.out] at HD2
      go_wp2_with fail
      refine HD1.out.mono ?_
      rintro e w5 ⟨⟨o5, c5, r5, o6, c6, r6, rfl, hp5, hq5, hn5, -, -, -⟩, h5⟩
      have Z5 := Lib.hid (Z4.out.to h5)
      have GX5 := Lib.hid (GX4.out.kept h5)
      have D5 := Lib.hid hp5
      have Q5 := Lib.hid hq5
      have H5 := Lib.hid h5
      clear hp5 hq5 hn5 h5 k1 k2 k3 HD1
      have k1 := Z5.out.two.dig
      have k2 := GX5.out.dig
      go_wp2_with fail
      refine (HD2.out _ H5.out).mono ?_
      rintro e w6 ⟨⟨o7, c7, r7, o8, c8, r8, rfl, hp7, hq7, hn7, -, -, -⟩, h6⟩
      have Z6 := Lib.hid (Z5.out.to h6)
      have D6 := Lib.hid (D5.out.below h6)
      have D7 := Lib.hid hp7
      have Q7 := Lib.hid hq7
      clear hp7 hq7 hn7 h6 k1 k2 HD2 D5
      have k1 := Z6.out.one.neg
      have hLE := low_abs x y4
      rw [← HGG.out] at hLE
      have hWT := Wh.trimmed b1 D6.out (lowN x y4) (by rw [Q5.out.val]; exact hLE.symm) (fun h0 => by rw [A2.out.neg]; exact low_neg x y4 h0)
      rw [← HNE.out] at hWT
      have HWT := Lib.hid hWT
      have HTR := Lib.hid (trimY_any b1 o5 c5 r5 w6 D6.out)
      have hrl5 : (trimP r5).length ≤ 100000 := Nat.le_trans (trimP_props r5).2.2.2.1 (Nat.le_trans (Pcs.len_mono A2.out.pcs Q5.out (Nat.div_le_self _ _)) (by rw [← HM3.out]; omega))
      have hrl7 : r7.length ≤ 100000 := Nat.le_trans (Pcs.len_mono B2.out.pcs Q7.out (by rw [Int.natAbs_natCast]; exact Nat.div_le_self _ _)) (by rw [← HN4.out]; omega)
      have HF7 := Lib.hid (fun (wx : World) hw (hx : Below w6.heap.size w6 wx) => fromY_any false o7 c7 r7 ((y4 / G : Nat) : Int) wx hw (Wh.ofNat (D7.out.below hx) Q7.out) hrl7)
      have hDL : str DD = zS ((y4 / G : Nat) : Int) := by rw [zS_of_nat, HDE.out]; unfold lowD; rw [← HGG.out]
      rw [← hDL] at HF7
      unfold whV at HTR HF7
      have HF5 := Lib.hid (fun (wx : World) hw (hx : Below w6.heap.size w6 wx) => fromY_any (b1 && decide (0 < (trimP r5).length)) o5 c5 (trimP r5) NN wx hw (HWT.out.below hx) hrl5)
      unfold whV at HF5
      rw [← HNS.out] at HF5
      rw [← HDS.out] at HF7
      clear hDL hLE hWT hrl5 hrl7
      go_wp2_with fail
      refine HTR.out.mono ?_
      rintro e w7 ⟨rfl, h7⟩
      have Z7 := Lib.hid (Z6.out.to h7)
      have H7 := Lib.hid h7
      clear h7
      go_wp2_with fail
      refine (HF5.out _ (HS.out.below Z7.out.below) H7.out).mono ?_
      rintro e w8 ⟨rfl, h8⟩
      have Z8 := Lib.hid (Z7.out.to h8)
      have H8 := Lib.hid (H7.out.trans (h8.mono H7.out.size))
      clear h8
      go_wp2_with fail
      refine (HF7.out _ (HS.out.below Z8.out.below) H8.out).mono ?_
      rintro e w9 ⟨rfl, h9⟩
      have Z9 := Z8.out.to h9
      have f0 := Z9.res.free 0
      have e0 := Z9.res.c0
      have e1 := Z9.res.c1
      have S0 := Z9.res.set0 (.string ns)
      have S1 := S0.set1 (.string ds)
      have f1 := S0.free 1
      have g1 := S0.c1
      have u0 := S1.c0
      have u1 := S1.c1
      have HBE := Lib.hid ((Z9.below.setCell (p := ⟨w.heap.size + 1 + 1, 0, none⟩) (by show w.heap.size ≤ w.heap.size + 1 + 1; omega) (.string ns)).setCell (p := ⟨w.heap.size + 1 + 1, 1, none⟩) (by show w.heap.size ≤ w.heap.size + 1 + 1; omega) (.string ds))
      clear S0 S1 h9 Z9
      go_wp2_with fail
      (try simp only [Exit.inBlock, Exit.then])
      refine bodyPost_ret (v := ratV ns ds) ?_ rfl ⟨rfl, HBE.out⟩
      rw [results_cell_one rfl]
      go_simp
set_option maxHeartbeats 12800000 in
set_option maxRecDepth 100000 in
theorem makeY_neg (b1 : Bool) (a : Option Addr) (ca : Nat) (p : List Nat) (x : Int) (b2 : Bool) (b : Option Addr) (cb : Nat) (q : List Nat) (y : Int) (w : World) (hs : Std w) (ha : Wh w b1 a ca p x) (hb : Wh w b2 b cb q y) (hy : y < 0) (hpl : p.length ≤ 20000) (hql : q.length ≤ 20000) :
    Calls Tryz.prog 24 #[whV b1 a ca p, whV b2 b cb q] w fun e w' => e = .returned (ratV (zS (newN x y)) (str (newD x y))) ∧ Below w.heap.size w w' := by
  have HX0 := Bm.new w b1 (.slice a p.length ca) b2 (.slice b q.length cb)
  have HS := Lib.hid hs
  have HA := Lib.hid ha
  have HB := Lib.hid hb
  have HSG := Lib.hid (fun (wx : World) (hx : Below w.heap.size w wx) => signWY_any b2 b cb q y wx (hb.below hx))
  have HYS := Lib.hid (fun (h : ¬ y < 0) => (show newN x y = lowN x y.natAbs ∧ newD x y = lowD x y.natAbs by unfold newN newD; rw [if_neg h, if_neg h]; exact ⟨rfl, rfl⟩))
  have HYN := Lib.hid (fun (h : y < 0) => (show newN x y = lowN (-x) y.natAbs ∧ newD x y = lowD (-x) y.natAbs by unfold newN newD; rw [if_pos h, if_pos h]; exact ⟨rfl, rfl⟩))
  have HPQ := Lib.hid (show p.length ≤ 20000 ∧ q.length ≤ 20000 from ⟨hpl, hql⟩)
  obtain ⟨NN, hNN⟩ : ∃ t, t = newN x y := ⟨_, rfl⟩
  obtain ⟨DD, hDD⟩ : ∃ t, t = newD x y := ⟨_, rfl⟩
  rw [← hNN, ← hDD] at HYS HYN
  obtain ⟨ns, hns⟩ : ∃ s, s = zS NN := ⟨_, rfl⟩
  obtain ⟨ds, hds⟩ : ∃ s, s = str DD := ⟨_, rfl⟩
  have HNS := Lib.hid hns
  have HDS := Lib.hid hds
  rw [← hNN, ← hDD, ← hns, ← hds]
  unfold whV at HSG
  unfold whV
  obtain ⟨m, hm⟩ : ∃ m, m = p.length := ⟨_, rfl⟩
  obtain ⟨n, hn⟩ : ∃ m, m = q.length := ⟨_, rfl⟩
  have HM := Lib.hid hm
  have HN := Lib.hid hn
  rw [← hm, ← hn] at HX0
  rw [← hn] at HSG
  rw [← hm, ← hn]
  have HGO := Lib.hid (hb.pd.out (show w.heap.size ≤ w.heap.size + 1 + 1 by omega))
  clear hm hn hNN hDD ha hb hs hpl hql hns hds
  go_enter Tryz.func24, Tryz.ntmps24
  go_upto_region 1 with fail
  obtain ⟨W0, hW0⟩ : ∃ W0, W0 = ((w.alloc (.cells #[.bool b1, .slice a m ca] 43)).alloc (.cells #[.bool b2, .slice b n cb] 43)).alloc (.cells #[.string ⟨#[]⟩, .string ⟨#[]⟩] 24) := ⟨_, rfl⟩
  rw [← hW0] at HX0 ⊢
  clear hW0
  have hd : decide (sgnI y < 0) = true := decide_eq_true (by rcases sgnI_ways y with ⟨h, e⟩ | ⟨h, e⟩ | ⟨h, e⟩ <;> omega)
  have HY2 := Lib.hid (HYN.out (by omega))
  obtain ⟨sy, hsy⟩ : ∃ s, s = sgnI y := ⟨_, rfl⟩
  rw [← hsy] at hd HSG
  have HYP := Lib.hid (show y < 0 by omega)
  have HNA := Lib.hid (fun (wx : World) (hx : Below w.heap.size w wx) => negWY_any b1 a ca p x wx (HA.out.below hx))
  have HNB := Lib.hid (fun (wx : World) (hx : Below w.heap.size w wx) => negWY_any b2 b cb q y wx (HB.out.below hx))
  unfold whV at HNA HNB
  rw [← HM.out] at HNA
  rw [← HN.out] at HNB
  have HAO := Lib.hid (HA.out.pd.out (Nat.le_refl w.heap.size))
  have HAO1 := Lib.hid (HA.out.pd.out (show w.heap.size ≤ w.heap.size + 1 by omega))
  have HBO := Lib.hid (HB.out.pd.out (Nat.le_refl w.heap.size))
  have HBO1 := Lib.hid (HB.out.pd.out (show w.heap.size ≤ w.heap.size + 1 by omega))
  have k1 := HX0.two.neg
  have k2 := HX0.two.dig
  have Z0 := Lib.hid HX0
  clear HX0 hsy HYS HYN
  go_wp2_with fail
  refine (HSG.out _ Z0.out.below).mono ?_
  rintro e w1 ⟨rfl, h1⟩
  have Z1 := Lib.hid (Z0.out.to h1)
  clear h1 k1 k2 HSG
  go_upto_region 2 with fail
  go_cut [] from 13 (fun wx => ∃ (b3 : Bool) (p3 : List Nat) (b4 : Bool) (q4 : List Nat), Bm w wx b3 (.slice a p3.length ca) b4 (.slice b q4.length cb) ∧ Wh wx b3 a ca p3 (-x) ∧ Wh wx b4 b cb q4 ((y.natAbs : Nat) : Int) ∧ p3.length ≤ 20000 ∧ q4.length ≤ 20000)
  case first =>
    have Y0 := Lib.hid (Z1.out.to (Below.drew (Below.refl _ _)))
    have l1 := Z1.out.one.neg
    have l2 := Z1.out.one.dig
    have l3 := Z1.out.two.neg
    have l4 := Z1.out.two.dig
    go_region_with (first | (go_at_call 53; have g0 := Y1.out; refine (HNB.out _ ?hpp).mono ?_; (case hpp => exact g0.below); rintro e w3 ⟨⟨b6, r6, rfl, hr6⟩, h3⟩; have Y2 := Lib.hid (g0.to h3); have E5 := Lib.hid (F5.out.below h3); have E6 := Lib.hid hr6; have hz := Y2.out; have q1 := hz.set1 b5; have q2 := q1.set2 (.slice a r5.length ca); have q3 := q2.set3 b6; have q4 := q3.set4 (.slice b r6.length cb); have qf0 := hz.one.free 0; have qe0 := hz.one.neg; have qe1 := hz.one.dig; have qf1 := q1.one.free 1; have qg1 := q1.one.dig; have qf2 := q2.two.free 0; have qg2 := q2.two.neg; have qg3 := q2.two.dig; have qf3 := q3.two.free 1; have qg4 := q3.two.dig; have HQ4 := Lib.hid q4; clear hz q1 q2 q3 q4 h3 hr6 g0) | (go_at_call 53; refine (HNA.out _ ?hpp).mono ?_; (case hpp => exact Y0.out.below); rintro e w2 ⟨⟨b5, r5, rfl, hr5⟩, h2⟩; have Y1 := Lib.hid (Y0.out.to h2); have F5 := Lib.hid hr5; have hz := Y1.out; have i1 := hz.one.neg; have i2 := hz.one.dig; have i3 := hz.two.neg; have i4 := hz.two.dig; clear hz h2 hr5))
    all_goals (
      go_wp2_with fail
      go_meet
      exact ⟨b5, r5, b6, r6, HQ4.out, (((E5.out.stored w.heap.size 0 _ HAO.out).stored w.heap.size 1 _ HAO.out).stored (w.heap.size + 1) 0 _ HAO1.out).stored (w.heap.size + 1) 1 _ HAO1.out, by rw [show ((y.natAbs : Nat) : Int) = -y by have := HYP.out; omega]; exact (((E6.out.stored w.heap.size 0 _ HBO.out).stored w.heap.size 1 _ HBO.out).stored (w.heap.size + 1) 0 _ HBO1.out).stored (w.heap.size + 1) 1 _ HBO1.out, Nat.le_trans (E5.out.len_le HA.out (by rw [Int.natAbs_neg]; exact Nat.le_refl _)) HPQ.out.1, Nat.le_trans (E6.out.len_le HB.out (by rw [Int.natAbs_neg]; exact Nat.le_refl _)) HPQ.out.2⟩)
  case rest =>
    obtain ⟨b3, p3, b4, q4, hbm, hw3, hw4, hp3, hq4⟩ := hcut
    obtain ⟨y4, hy4e⟩ : ∃ y4 : Nat, y4 = y.natAbs := ⟨_, rfl⟩
    rw [← hy4e] at hw4 HY2
    have hy4 : 0 < y4 := by have := HYP.out; omega
    have HNE := Lib.hid HY2.out.1
    have HDE := Lib.hid HY2.out.2
    have Z2 := Lib.hid hbm
    have A2 := Lib.hid hw3
    have B2 := Lib.hid hw4
    clear hbm Z1 Z0 HA HB HY2 HPQ hy4e hd HNA HNB HAO HAO1 HBO HBO1 HM HN HYP
    obtain ⟨x3, hx3⟩ : ∃ x3, x3 = -x := ⟨_, rfl⟩
    rw [← hx3] at hw3 A2 HNE HDE
    clear hx3
    have hlc3 := hw3.pd.lc
    have hlm3 := hw3.pd.lim
    have hlc4 := hw4.pd.lc
    have hlm4 := hw4.pd.lim
    have B4E := Lib.hid hw4.neg
    clear hw3 hw4
    have k1 := Z2.out.one.dig
    have k2 := Z2.out.two.dig
    obtain ⟨m3, hm3⟩ : ∃ m, m = p3.length := ⟨_, rfl⟩
    obtain ⟨n4, hn4⟩ : ∃ m, m = q4.length := ⟨_, rfl⟩
    have HM3 := Lib.hid hm3
    have HN4 := Lib.hid hn4
    have hz2 := Z2.out
    rw [← hm3, ← hn4] at hz2
    rw [← hm3] at k1 hp3 hlc3
    rw [← hn4] at k2 hq4 hlc4
    clear Z2
    have Z2 := Lib.hid hz2
    clear hz2 hm3 hn4
    have hn40 : n4 ≠ 0 := by
      intro h
      have h1 := B2.out.len_zero.1 (by rw [← HN4.out]; exact h)
      omega
    by_cases hc : m3 ≤ 1 ∧ n4 = 1
    · have hd1 : decide ((m3 : Int) ≤ 1) = true := decide_eq_true (by omega)
      have hd2 : ((n4 : Int) == 1) = true := by rw [beq_iff_eq]; omega
      obtain ⟨hq1, hq9, hqp⟩ := len_oneL B2.out.pcs (by rw [← HN4.out]; exact hc.2)
      rw [Int.natAbs_natCast] at hq1 hq9 hqp
      obtain ⟨g, hg, hce⟩ := B2.out.pd.at 0 (by rw [hq1]; exact Nat.one_pos)
      rw [hq1] at hce
      have hce2 : wc.cell? ⟨g, 0, none⟩ = some (.int .i64 (y4 : Int)) := hce
      have hgl := B2.out.pd.lt g hg
      have hgne := (B2.out.pd)
      subst hg
      have HLI := Lib.hid (fun (wx : World) hw (hx : Below wc.heap.size wc wx) => littleY_any b3 a ca p3 x3 y4 wx hw (A2.out.below hx) (by rw [← HM3.out]; exact hc.1) hy4 hq9)
      rw [← HNE.out, ← HDE.out] at HLI
      unfold whV at HLI
      rw [← HM3.out] at HLI
      rw [← HNS.out, ← HDS.out] at HLI
      have HGN := Lib.hid (show g ≠ w.heap.size + 1 + 1 from HGO.out g rfl)
      have n41 : n4 = 1 := hc.2
      subst n41
      clear hq1 hce hc hgne hn40
      go_wp2_with fail
      have Y0 := Lib.hid (Z2.out.to (Below.drew (Below.refl _ _)))
      have c0 := Lib.hid hce2
      go_region_held3 (fun W => W.cell? ⟨w.heap.size, 0, none⟩ = some (.bool b3) ∧ W.cell? ⟨w.heap.size, 1, none⟩ = some (.slice a m3 ca) ∧ W.cell? ⟨w.heap.size + 1, 1, none⟩ = some (.slice (some ⟨g, 0, none⟩) 1 cb) ∧ W.cell? ⟨g, 0, none⟩ = some (.int .i64 (y4 : Int))) (first | exact ⟨T1.out.1, T1.out.2.1, T1.out.2.2, by rw [World.cell?_setCell_far _ _ _ _ (by show w.heap.size + 1 + 1 ≠ g; exact HGN.out.symm), World.cell?_setCell_far _ _ _ _ (by show w.heap.size + 1 + 1 ≠ g; exact HGN.out.symm)]; exact c1.out⟩ | exact ⟨Y1.out.one.neg, Y1.out.one.dig, Y1.out.two.dig, c1.out⟩ | exact ⟨Y0.out.one.neg, Y0.out.one.dig, Y0.out.two.dig, c0.out⟩) (first | (go_at_call 73; refine (HLI.out _ ?hss ?hxx).mono ?_; (case hss => exact HS.out.below Y0.out.below); (case hxx => exact Below.drew (Below.refl _ _)); rintro e w3 ⟨rfl, h3⟩; have Y1 := Lib.hid (Y0.out.to h3); have c1 := Lib.hid (show w3.cell? ⟨g, 0, none⟩ = some (.int .i64 (y4 : Int)) by rw [h3.cell (p := ⟨g, 0, none⟩) hgl]; exact c0.out); have hz := Y1.out; have f0 := hz.res.free 0; have e0 := hz.res.c0; have e1 := hz.res.c1; have S0 := hz.res.set0 (.string ns); have S1 := S0.set1 (.string ds); have f1 := S0.free 1; have g1 := S0.c1; have u0 := S1.c0; have u1 := S1.c1; have T1 := Lib.hid (show _ ∧ _ ∧ _ from ⟨((hz.one.other (p := ⟨w.heap.size + 1 + 1, 0, none⟩) (by show w.heap.size ≠ w.heap.size + 1 + 1; omega) (.string ns)).other (p := ⟨w.heap.size + 1 + 1, 1, none⟩) (by show w.heap.size ≠ w.heap.size + 1 + 1; omega) (.string ds)).neg, ((hz.one.other (p := ⟨w.heap.size + 1 + 1, 0, none⟩) (by show w.heap.size ≠ w.heap.size + 1 + 1; omega) (.string ns)).other (p := ⟨w.heap.size + 1 + 1, 1, none⟩) (by show w.heap.size ≠ w.heap.size + 1 + 1; omega) (.string ds)).dig, ((hz.two.other (p := ⟨w.heap.size + 1 + 1, 0, none⟩) (by show w.heap.size + 1 ≠ w.heap.size + 1 + 1; omega) (.string ns)).other (p := ⟨w.heap.size + 1 + 1, 1, none⟩) (by show w.heap.size + 1 ≠ w.heap.size + 1 + 1; omega) (.string ds)).dig⟩); have HBE := Lib.hid ((hz.below.setCell (p := ⟨w.heap.size + 1 + 1, 0, none⟩) (by show w.heap.size ≤ w.heap.size + 1 + 1; omega) (.string ns)).setCell (p := ⟨w.heap.size + 1 + 1, 1, none⟩) (by show w.heap.size ≤ w.heap.size + 1 + 1; omega) (.string ds)); clear hz S0 S1 h3))
      all_goals (
        go_wp2_with fail
        (try simp only [Exit.inBlock, Exit.then])
        refine bodyPost_ret (v := ratV ns ds) ?_ rfl ⟨rfl, HBE.out⟩
        rw [results_cell_one rfl]
        go_simp)
    · have HGW := Lib.hid (fun (wx : World) (hx : Below wc.heap.size wc wx) => gcdWY_any b3 a ca p3 x3 b4 b cb q4 (y4 : Int) wx (A2.out.below hx) (B2.out.below hx) (by rw [← HM3.out]; exact hp3) (by rw [← HN4.out]; exact hq4))
      unfold whV at HGW
      rw [← HM3.out, ← HN4.out] at HGW
      have HMC := Lib.hid (show (m3 ≤ 1 → n4 ≠ 1) from fun h1 h2 => hc ⟨h1, h2⟩)
      have hcd : (decide ((m3 : Int) ≤ 1) = false) ∨ (decide ((m3 : Int) ≤ 1) = true ∧ ((n4 : Int) == 1) = false) := by
        by_cases h1 : m3 ≤ 1
        · refine .inr ⟨decide_eq_true (by omega), ?_⟩
          rw [beq_eq_false_iff_ne]; intro h2; exact hc ⟨h1, by omega⟩
        · exact .inl (decide_eq_false (by omega))
      clear hc HMC
      rcases hcd with hd1 | ⟨hd1, hd2⟩
      · have k3 := Z2.out.one.neg
        have k4 := Z2.out.two.neg
        have HST := Lib.hid (HS.out.below Z2.out.below)
        go_upto_region 5 with fail
        go_wp2_with fail
        refine (HGW.out _ (Below.refl _ _)).mono ?_
        rintro e w3 ⟨⟨og, cg, rg, rfl, hwg, horg⟩, h3⟩
        have Z3 := Lib.hid (Z2.out.to h3)
        have A3 := Lib.hid (A2.out.below h3)
        have B3 := Lib.hid (B2.out.below h3)
        obtain ⟨G, hG⟩ : ∃ G, G = Nat.gcd x3.natAbs y4 := ⟨_, rfl⟩
        rw [Int.natAbs_natCast, ← hG] at hwg
        have HGG := Lib.hid hG
        have hGp : 0 < G := by rw [hG]; exact Nat.gcd_pos_of_pos_right _ hy4
        have GW := Lib.hid hwg
        have hgl : rg.length ≤ 20000 := Nat.le_trans (hwg.len_le B2.out (by rw [Int.natAbs_natCast, Int.natAbs_natCast, hG]; exact Nat.gcd_le_right _ hy4)) (by rw [← HN4.out]; exact hq4)
        have hgc := hwg.pd.lc
        have hgm := hwg.pd.lim
        clear hG hwg horg h3 k1 k2 k3 k4 HGW
        obtain ⟨kg, hkg⟩ : ∃ k, k = rg.length := ⟨_, rfl⟩
        have HKG := Lib.hid hkg
        rw [← hkg] at hgl hgc ⊢
        clear hkg
        go_upto_region 6 with fail
        have GX := Lib.hid (BxO.new w3 w.heap.size Z3.out.below.size false (.slice og kg cg))
        have HGA := Lib.hid ((Below.refl w3.heap.size w3).alloc (Nat.le_refl _) (.cells #[.bool false, .slice og kg cg] 43))
        obtain ⟨g5, hg5⟩ : ∃ g5, g5 = w3.heap.size := ⟨_, rfl⟩
        obtain ⟨W4, hW4⟩ : ∃ W4, W4 = w3.alloc (.cells #[.bool false, .slice og kg cg] 43) := ⟨_, rfl⟩
        rw [← hW4] at GX HGA ⊢
        have hga := HGA.out
        have Z4 := Lib.hid (Z3.out.to hga)
        have A4 := Lib.hid (A3.out.below hga)
        have B4 := Lib.hid (B3.out.below hga)
        have G4 := Lib.hid (GW.out.below hga)
        have GY := GX.out
        rw [← hg5] at GY ⊢
        have GX4 := Lib.hid GY
        clear hW4 hg5 hga HGA GX GY Z3 A3 B3 GW
        have k1 := Z4.out.one.dig
        have k2 := Z4.out.two.dig
        have k3 := GX4.out.dig
        have HD1 := Lib.hid (divideY_any a ca p3 og cg rg x3.natAbs G W4 A4.out.pd G4.out.pd A4.out.pcs (by have := G4.out.pcs; rw [Int.natAbs_natCast] at this; exact this) hGp (by rw [← HM3.out]; omega) (by rw [← HKG.out]; omega))
        have HD2 := Lib.hid (fun (wx : World) (hx : Below W4.heap.size W4 wx) => divideY_any b cb q4 og cg rg y4 G wx (B4.out.pd.below hx) (G4.out.pd.below hx) (by have := B4.out.pcs; rw [Int.natAbs_natCast] at this; exact this) (by have := G4.out.pcs; rw [Int.natAbs_natCast] at this; exact this) hGp (by rw [← HN4.out]; omega) (by rw [← HKG.out]; omega))
        rw [← HM3.out, ← HKG.out] at HD1
        rw [← HN4.out, ← HKG.out] at HD2
        go_wp2_with fail
        refine HD1.out.mono ?_
        rintro e w5 ⟨⟨o5, c5, r5, o6, c6, r6, rfl, hp5, hq5, hn5, -, -, -⟩, h5⟩
        have Z5 := Lib.hid (Z4.out.to h5)
        have GX5 := Lib.hid (GX4.out.kept h5)
        have D5 := Lib.hid hp5
        have Q5 := Lib.hid hq5
        have H5 := Lib.hid h5
        clear hp5 hq5 hn5 h5 k1 k2 k3 HD1
        have k1 := Z5.out.two.dig
        have k2 := GX5.out.dig
        go_wp2_with fail
        refine (HD2.out _ H5.out).mono ?_
        rintro e w6 ⟨⟨o7, c7, r7, o8, c8, r8, rfl, hp7, hq7, hn7, -, -, -⟩, h6⟩
        have Z6 := Lib.hid (Z5.out.to h6)
        have D6 := Lib.hid (D5.out.below h6)
        have D7 := Lib.hid hp7
        have Q7 := Lib.hid hq7
        clear hp7 hq7 hn7 h6 k1 k2 HD2 D5
        have k1 := Z6.out.one.neg
        have hLE := low_abs x3 y4
        rw [← HGG.out] at hLE
        have hWT := Wh.trimmed b3 D6.out (lowN x3 y4) (by rw [Q5.out.val]; exact hLE.symm) (fun h0 => by rw [A2.out.neg]; exact low_neg x3 y4 h0)
        rw [← HNE.out] at hWT
        have HWT := Lib.hid hWT
        have HTR := Lib.hid (trimY_any b3 o5 c5 r5 w6 D6.out)
        have hrl5 : (trimP r5).length ≤ 100000 := Nat.le_trans (trimP_props r5).2.2.2.1 (Nat.le_trans (Pcs.len_mono A2.out.pcs Q5.out (Nat.div_le_self _ _)) (by rw [← HM3.out]; omega))
        have hrl7 : r7.length ≤ 100000 := Nat.le_trans (Pcs.len_mono B2.out.pcs Q7.out (by rw [Int.natAbs_natCast]; exact Nat.div_le_self _ _)) (by rw [← HN4.out]; omega)
        have HF7 := Lib.hid (fun (wx : World) hw (hx : Below w6.heap.size w6 wx) => fromY_any false o7 c7 r7 ((y4 / G : Nat) : Int) wx hw (Wh.ofNat (D7.out.below hx) Q7.out) hrl7)
        have hDL : str DD = zS ((y4 / G : Nat) : Int) := by rw [zS_of_nat, HDE.out]; unfold lowD; rw [← HGG.out]
        rw [← hDL] at HF7
        unfold whV at HTR HF7
        have HF5 := Lib.hid (fun (wx : World) hw (hx : Below w6.heap.size w6 wx) => fromY_any (b3 && decide (0 < (trimP r5).length)) o5 c5 (trimP r5) NN wx hw (HWT.out.below hx) hrl5)
        unfold whV at HF5
        rw [← HNS.out] at HF5
        rw [← HDS.out] at HF7
        clear hDL hLE hWT hrl5 hrl7
        go_wp2_with fail
        refine HTR.out.mono ?_
        rintro e w7 ⟨rfl, h7⟩
        have Z7 := Lib.hid (Z6.out.to h7)
        have H7 := Lib.hid h7
        clear h7
        go_wp2_with fail
        refine (HF5.out _ (HS.out.below Z7.out.below) H7.out).mono ?_
        rintro e w8 ⟨rfl, h8⟩
        have Z8 := Lib.hid (Z7.out.to h8)
        have H8 := Lib.hid (H7.out.trans (h8.mono H7.out.size))
        clear h8
        go_wp2_with fail
        refine (HF7.out _ (HS.out.below Z8.out.below) H8.out).mono ?_
        rintro e w9 ⟨rfl, h9⟩
        have Z9 := Z8.out.to h9
        have f0 := Z9.res.free 0
        have e0 := Z9.res.c0
        have e1 := Z9.res.c1
        have S0 := Z9.res.set0 (.string ns)
        have S1 := S0.set1 (.string ds)
        have f1 := S0.free 1
        have g1 := S0.c1
        have u0 := S1.c0
        have u1 := S1.c1
        have HBE := Lib.hid ((Z9.below.setCell (p := ⟨w.heap.size + 1 + 1, 0, none⟩) (by show w.heap.size ≤ w.heap.size + 1 + 1; omega) (.string ns)).setCell (p := ⟨w.heap.size + 1 + 1, 1, none⟩) (by show w.heap.size ≤ w.heap.size + 1 + 1; omega) (.string ds))
        clear S0 S1 h9 Z9
        go_wp2_with fail
        (try simp only [Exit.inBlock, Exit.then])
        refine bodyPost_ret (v := ratV ns ds) ?_ rfl ⟨rfl, HBE.out⟩
        rw [results_cell_one rfl]
        go_simp
      · have k3 := Z2.out.one.neg
        have k4 := Z2.out.two.neg
        have HST := Lib.hid (HS.out.below Z2.out.below)
        go_upto_region 5 with fail
        go_wp2_with fail
        refine (HGW.out _ (Below.refl _ _)).mono ?_
        rintro e w3 ⟨⟨og, cg, rg, rfl, hwg, horg⟩, h3⟩
        have Z3 := Lib.hid (Z2.out.to h3)
        have A3 := Lib.hid (A2.out.below h3)
        have B3 := Lib.hid (B2.out.below h3)
        obtain ⟨G, hG⟩ : ∃ G, G = Nat.gcd x3.natAbs y4 := ⟨_, rfl⟩
        rw [Int.natAbs_natCast, ← hG] at hwg
        have HGG := Lib.hid hG
        have hGp : 0 < G := by rw [hG]; exact Nat.gcd_pos_of_pos_right _ hy4
        have GW := Lib.hid hwg
        have hgl : rg.length ≤ 20000 := Nat.le_trans (hwg.len_le B2.out (by rw [Int.natAbs_natCast, Int.natAbs_natCast, hG]; exact Nat.gcd_le_right _ hy4)) (by rw [← HN4.out]; exact hq4)
        have hgc := hwg.pd.lc
        have hgm := hwg.pd.lim
        clear hG hwg horg h3 k1 k2 k3 k4 HGW
        obtain ⟨kg, hkg⟩ : ∃ k, k = rg.length := ⟨_, rfl⟩
        have HKG := Lib.hid hkg
        rw [← hkg] at hgl hgc ⊢
        clear hkg
        go_upto_region 6 with fail
        have GX := Lib.hid (BxO.new w3 w.heap.size Z3.out.below.size false (.slice og kg cg))
        have HGA := Lib.hid ((Below.refl w3.heap.size w3).alloc (Nat.le_refl _) (.cells #[.bool false, .slice og kg cg] 43))
        obtain ⟨g5, hg5⟩ : ∃ g5, g5 = w3.heap.size := ⟨_, rfl⟩
        obtain ⟨W4, hW4⟩ : ∃ W4, W4 = w3.alloc (.cells #[.bool false, .slice og kg cg] 43) := ⟨_, rfl⟩
        rw [← hW4] at GX HGA ⊢
        have hga := HGA.out
        have Z4 := Lib.hid (Z3.out.to hga)
        have A4 := Lib.hid (A3.out.below hga)
        have B4 := Lib.hid (B3.out.below hga)
        have G4 := Lib.hid (GW.out.below hga)
        have GY := GX.out
        rw [← hg5] at GY ⊢
        have GX4 := Lib.hid GY
        clear hW4 hg5 hga HGA GX GY Z3 A3 B3 GW
        have k1 := Z4.out.one.dig
        have k2 := Z4.out.two.dig
        have k3 := GX4.out.dig
        have HD1 := Lib.hid (divideY_any a ca p3 og cg rg x3.natAbs G W4 A4.out.pd G4.out.pd A4.out.pcs (by have := G4.out.pcs; rw [Int.natAbs_natCast] at this; exact this) hGp (by rw [← HM3.out]; omega) (by rw [← HKG.out]; omega))
        have HD2 := Lib.hid (fun (wx : World) (hx : Below W4.heap.size W4 wx) => divideY_any b cb q4 og cg rg y4 G wx (B4.out.pd.below hx) (G4.out.pd.below hx) (by have := B4.out.pcs; rw [Int.natAbs_natCast] at this; exact this) (by have := G4.out.pcs; rw [Int.natAbs_natCast] at this; exact this) hGp (by rw [← HN4.out]; omega) (by rw [← HKG.out]; omega))
        rw [← HM3.out, ← HKG.out] at HD1
        rw [← HN4.out, ← HKG.out] at HD2
        go_wp2_with fail
        refine HD1.out.mono ?_
        rintro e w5 ⟨⟨o5, c5, r5, o6, c6, r6, rfl, hp5, hq5, hn5, -, -, -⟩, h5⟩
        have Z5 := Lib.hid (Z4.out.to h5)
        have GX5 := Lib.hid (GX4.out.kept h5)
        have D5 := Lib.hid hp5
        have Q5 := Lib.hid hq5
        have H5 := Lib.hid h5
        clear hp5 hq5 hn5 h5 k1 k2 k3 HD1
        have k1 := Z5.out.two.dig
        have k2 := GX5.out.dig
        go_wp2_with fail
        refine (HD2.out _ H5.out).mono ?_
        rintro e w6 ⟨⟨o7, c7, r7, o8, c8, r8, rfl, hp7, hq7, hn7, -, -, -⟩, h6⟩
        have Z6 := Lib.hid (Z5.out.to h6)
        have D6 := Lib.hid (D5.out.below h6)
        have D7 := Lib.hid hp7
        have Q7 := Lib.hid hq7
        clear hp7 hq7 hn7 h6 k1 k2 HD2 D5
        have k1 := Z6.out.one.neg
        have hLE := low_abs x3 y4
        rw [← HGG.out] at hLE
        have hWT := Wh.trimmed b3 D6.out (lowN x3 y4) (by rw [Q5.out.val]; exact hLE.symm) (fun h0 => by rw [A2.out.neg]; exact low_neg x3 y4 h0)
        rw [← HNE.out] at hWT
        have HWT := Lib.hid hWT
        have HTR := Lib.hid (trimY_any b3 o5 c5 r5 w6 D6.out)
        have hrl5 : (trimP r5).length ≤ 100000 := Nat.le_trans (trimP_props r5).2.2.2.1 (Nat.le_trans (Pcs.len_mono A2.out.pcs Q5.out (Nat.div_le_self _ _)) (by rw [← HM3.out]; omega))
        have hrl7 : r7.length ≤ 100000 := Nat.le_trans (Pcs.len_mono B2.out.pcs Q7.out (by rw [Int.natAbs_natCast]; exact Nat.div_le_self _ _)) (by rw [← HN4.out]; omega)
        have HF7 := Lib.hid (fun (wx : World) hw (hx : Below w6.heap.size w6 wx) => fromY_any false o7 c7 r7 ((y4 / G : Nat) : Int) wx hw (Wh.ofNat (D7.out.below hx) Q7.out) hrl7)
        have hDL : str DD = zS ((y4 / G : Nat) : Int) := by rw [zS_of_nat, HDE.out]; unfold lowD; rw [← HGG.out]
        rw [← hDL] at HF7
        unfold whV at HTR HF7
        have HF5 := Lib.hid (fun (wx : World) hw (hx : Below w6.heap.size w6 wx) => fromY_any (b3 && decide (0 < (trimP r5).length)) o5 c5 (trimP r5) NN wx hw (HWT.out.below hx) hrl5)
        unfold whV at HF5
        rw [← HNS.out] at HF5
        rw [← HDS.out] at HF7
        clear hDL hLE hWT hrl5 hrl7
        go_wp2_with fail
        refine HTR.out.mono ?_
        rintro e w7 ⟨rfl, h7⟩
        have Z7 := Lib.hid (Z6.out.to h7)
        have H7 := Lib.hid h7
        clear h7
        go_wp2_with fail
        refine (HF5.out _ (HS.out.below Z7.out.below) H7.out).mono ?_
        rintro e w8 ⟨rfl, h8⟩
        have Z8 := Lib.hid (Z7.out.to h8)
        have H8 := Lib.hid (H7.out.trans (h8.mono H7.out.size))
        clear h8
        go_wp2_with fail
        refine (HF7.out _ (HS.out.below Z8.out.below) H8.out).mono ?_
        rintro e w9 ⟨rfl, h9⟩
        have Z9 := Z8.out.to h9
        have f0 := Z9.res.free 0
        have e0 := Z9.res.c0
        have e1 := Z9.res.c1
        have S0 := Z9.res.set0 (.string ns)
        have S1 := S0.set1 (.string ds)
        have f1 := S0.free 1
        have g1 := S0.c1
        have u0 := S1.c0
        have u1 := S1.c1
        have HBE := Lib.hid ((Z9.below.setCell (p := ⟨w.heap.size + 1 + 1, 0, none⟩) (by show w.heap.size ≤ w.heap.size + 1 + 1; omega) (.string ns)).setCell (p := ⟨w.heap.size + 1 + 1, 1, none⟩) (by show w.heap.size ≤ w.heap.size + 1 + 1; omega) (.string ds))
        clear S0 S1 h9 Z9
        go_wp2_with fail
        (try simp only [Exit.inBlock, Exit.then])
        refine bodyPost_ret (v := ratV ns ds) ?_ rfl ⟨rfl, HBE.out⟩
        rw [results_cell_one rfl]
        go_simp
theorem makeY_any (b1 : Bool) (a : Option Addr) (ca : Nat) (p : List Nat) (x : Int) (b2 : Bool) (b : Option Addr) (cb : Nat) (q : List Nat) (y : Int) (w : World) (hs : Std w) (ha : Wh w b1 a ca p x) (hb : Wh w b2 b cb q y) (hy : y ≠ 0) (hpl : p.length ≤ 20000) (hql : q.length ≤ 20000) :
    Calls Tryz.prog 24 #[whV b1 a ca p, whV b2 b cb q] w fun e w' => e = .returned (ratV (zS (newN x y)) (str (newD x y))) ∧ Below w.heap.size w w' := by
  by_cases h : y < 0
  · exact makeY_neg b1 a ca p x b2 b cb q y w hs ha hb h hpl hql
  · exact makeY_pos b1 a ca p x b2 b cb q y w hs ha hb (by omega) hpl hql
end Go.Proofs.YtdgbplppabalgaaGreatDoor
