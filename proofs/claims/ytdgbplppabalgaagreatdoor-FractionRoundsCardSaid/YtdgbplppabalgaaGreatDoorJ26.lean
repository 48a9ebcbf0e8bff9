/-
  Texts of one seat, joined: YLit.
-/
import Derived.Test.YtdgbplppabalgaaGreatDoorJ23
import Derived.Test.YtdgbplppabalgaaGreatDoorJ14
namespace Go.Proofs.YtdgbplppabalgaaGreatDoor
open Go.RowKit

theorem low_abs (n : Int) (d : Nat) : (lowN n d).natAbs = n.natAbs / Nat.gcd n.natAbs d := by
  obtain ⟨h1, _⟩ := low_parts n d
  obtain ⟨G, hG⟩ : ∃ G, G = Nat.gcd n.natAbs d := ⟨_, rfl⟩
  rw [← hG] at h1 ⊢
  obtain ⟨l, hl⟩ : ∃ l, l = lowN n d := ⟨_, rfl⟩
  rw [← hl] at h1 ⊢
  have h2 : n.natAbs = G * l.natAbs := by rw [h1, Int.natAbs_mul, Int.natAbs_natCast]
  rw [h2]
  rcases Nat.eq_zero_or_pos G with h | h
  · have hn : n = 0 := by rw [h1, h]; simp
    have h0 : l = 0 := by rw [hl]; unfold lowN; rw [hn]; simp
    rw [h0]; simp
  · rw [Nat.mul_div_cancel_left _ h]
theorem low_neg (n : Int) (d : Nat) (h : lowN n d ≠ 0) : decide (n < 0) = decide (lowN n d < 0) := by
  obtain ⟨h1, _⟩ := low_parts n d
  obtain ⟨G, hG⟩ : ∃ G, G = Nat.gcd n.natAbs d := ⟨_, rfl⟩
  rw [← hG] at h1
  obtain ⟨l, hl⟩ : ∃ l, l = lowN n d := ⟨_, rfl⟩
  rw [← hl] at h1 h ⊢
  have hGp : 0 < G := by
    apply Nat.pos_of_ne_zero; intro q
    have hn : n = 0 := by rw [h1, q]; simp
    apply h; rw [hl]; unfold lowN; rw [hn]; simp
  rcases (by omega : l < 0 ∨ 0 < l) with k | k
  · have := Int.mul_neg_of_pos_of_neg (show (0 : Int) < G by omega) k
    rw [decide_eq_true k, decide_eq_true (by omega)]
  · have := Int.mul_pos (show (0 : Int) < G by omega) k
    rw [decide_eq_false (by omega), decide_eq_false (by omega)]
theorem low_sg (n : Int) (d : Nat) : lowN n d = if n < 0 then -((n.natAbs / Nat.gcd n.natAbs d : Nat) : Int) else ((n.natAbs / Nat.gcd n.natAbs d : Nat) : Int) := by
  have h1 := low_abs n d
  by_cases h0 : lowN n d = 0
  · rw [h0] at h1 ⊢
    have h2 : n.natAbs / Nat.gcd n.natAbs d = 0 := h1.symm
    rw [h2]; simp
  · have h2 := low_neg n d h0
    by_cases h : n < 0
    · rw [if_pos h]; rw [decide_eq_true h] at h2; have := of_decide_eq_true h2.symm; omega
    · rw [if_neg h]; rw [decide_eq_false h] at h2; have := of_decide_eq_false h2.symm; omega
theorem len_oneL {q : List Nat} {y : Nat} (h : Pcs q y) (h1 : q.length = 1) : q = [y] ∧ y < 1000000000 ∧ 0 < y := by
  cases q with
  | nil => cases h1
  | cons a l =>
    have hl : l = [] := by cases l with
      | nil => rfl
      | cons c d => simp at h1
    subst hl
    have := h.val
    rw [pv_one] at this; subst this
    refine ⟨rfl, h.lt a (by simp), ?_⟩
    have ht := h.top
    unfold Go.Proofs.YtdgbplppabalgaaGreatDoor.top at ht
    simp at ht; omega
/-- a box and the cell of a fraction -/
structure Bl (w W : World) (b1 : Bool) (v1 : Value) : Prop where
  below : Below w.heap.size w W
  one : BxO W w.heap.size w.heap.size b1 v1
  res : BxT W w.heap.size (w.heap.size + 1) 24 (.string ⟨#[]⟩) (.string ⟨#[]⟩)
theorem Bl.to {w W W' : World} {b1 : Bool} {v1 : Value} (h : Bl w W b1 v1) (hb : Below W.heap.size W W') : Bl w W' b1 v1 := ⟨h.below.trans (hb.mono h.below.size), h.one.kept hb, h.res.kept hb⟩
theorem Bl.new (w : World) (b1 : Bool) (v1 : Value) : Bl w ((w.alloc (.cells #[.bool b1, v1] 43)).alloc (.cells #[.string ⟨#[]⟩, .string ⟨#[]⟩] 24)) b1 v1 := by
  have h := BxT.new (w.alloc (.cells #[.bool b1, v1] 43)) w.heap.size (by rw [push_size]; omega) 24 (.string ⟨#[]⟩) (.string ⟨#[]⟩)
  rw [push_size] at h
  exact ⟨((Below.refl _ w).alloc (Nat.le_refl _) _).alloc (by rw [push_size]; omega) _, (BxO.new w w.heap.size (Nat.le_refl _) b1 v1).alloc _, h⟩
set_option maxHeartbeats 3200000 in
set_option maxRecDepth 100000 in
theorem littleY_any (b1 : Bool) (a : Option Addr) (ca : Nat) (p : List Nat) (z : Int) (d : Nat) (w : World) (hs : Std w) (ha : Wh w b1 a ca p z) (hpl : p.length ≤ 1) (hd : 0 < d) (hd9 : d < 1000000000) :
    Calls Tryz.prog 73 #[whV b1 a ca p, .int .i64 (d : Int)] w fun e w' => e = .returned (ratV (zS (lowN z d)) (str (lowD z d))) ∧ Below w.heap.size w w' := by
  have HX0 := Bl.new w b1 (.slice a p.length ca)
  have HS := Lib.hid hs
  obtain ⟨N, hN⟩ : ∃ N, N = z.natAbs := ⟨_, rfl⟩
  obtain ⟨G, hG⟩ : ∃ G, G = Nat.gcd N d := ⟨_, rfl⟩
  have hGp : 0 < G := by rw [hG]; exact Nat.gcd_pos_of_pos_right _ hd
  have hGd : G ≤ d := by rw [hG]; exact Nat.gcd_le_right _ hd
  have hN9 : N < 1000000000 := by
    have h1 := pv_lt p ha.pcs.lt
    rw [ha.pcs.val, ← hN] at h1
    exact Nat.lt_of_lt_of_le h1 (Nat.le_trans (Nat.pow_le_pow_right (by decide) hpl) (by decide))
  have HLN := Lib.hid (show lowN z d = if b1 = true then -((N / G : Nat) : Int) else ((N / G : Nat) : Int) by
    rw [low_sg, ← hN, ← hG, ha.neg]
    by_cases h : z < 0
    · rw [if_pos h, if_pos (decide_eq_true h)]
    · rw [if_neg h, if_neg (by rw [decide_eq_false h]; decide)])
  have HLD := Lib.hid (show lowD z d = d / G by unfold lowD; rw [← hN, ← hG])
  have HI := Lib.hid (fun (v : Int) wx hw h1 h2 => intY_any v wx hw h1 h2)
  have HG := Lib.hid hG.symm
  have hN0 := ha.len_zero
  have hlc := ha.pd.lc
  have hlm := ha.pd.lim
  have HCE := Lib.hid (show p.length ≠ 0 → ∀ wx, Below w.heap.size w wx → ∃ g, a = some ⟨g, 0, none⟩ ∧ wx.cell? ⟨g, 0, none⟩ = some (.int .i64 (N : Int)) from fun h0 wx hx => by
    obtain ⟨h1, _, _⟩ := len_oneL ha.pcs (by omega)
    obtain ⟨g, e1, e2⟩ := (ha.pd.below hx).at 0 (by omega)
    refine ⟨g, e1, ?_⟩
    rw [e2, h1]
    show some (Value.int .i64 ((z.natAbs : Nat) : Int)) = _
    rw [hN])
  unfold whV
  obtain ⟨m, hm⟩ : ∃ m, m = p.length := ⟨_, rfl⟩
  rw [← hm] at HX0 hpl hN0 HCE hlc ⊢
  have HNG := Lib.hid ha.neg
  clear hm ha hs hG
  by_cases hm0 : m = 0
  · have hzz : z = 0 := hN0.1 hm0
    have hz0 : N = 0 := by rw [hN, hzz]; rfl
    have hbf : b1 = false := by rw [HNG.out, hzz]; rfl
    have HLZ := Lib.hid (show lowN z d = 0 by rw [hzz]; unfold lowN; simp)
    subst hbf
    subst hm0
    subst hz0
    clear hN0 hN hzz
    go_enter Tryz.func73, Tryz.ntmps73
    go_upto_region 1 with fail
    obtain ⟨W0, hW0⟩ : ∃ W0, W0 = (w.alloc (.cells #[.bool false, .slice a 0 ca] 43)).alloc (.cells #[.string ⟨#[]⟩, .string ⟨#[]⟩] 24) := ⟨_, rfl⟩
    rw [← hW0] at HX0 ⊢
    clear hW0
    have k1 := HX0.one.dig
    have Z0 := Lib.hid HX0
    clear HX0
    go_wp2_with fail
    clear k1
    go_loopw [6, 7] (fun xv yv wr => ∃ X Y : Nat, xv = .int .i64 (X : Int) ∧ yv = .int .i64 (Y : Int) ∧ X < 1000000000 ∧ Y < 1000000000 ∧ Hid (Nat.gcd X Y = G) ∧ Hid (Bl w wr false (.slice a 0 ca))) (fun _ yv _ => (intOf yv).toNat)
    case atStart => exact ⟨0, d, rfl, rfl, hN9, hd9, HG, Z0⟩
    case round =>
      obtain ⟨X, Y, rfl, rfl, hX, hY, HGG, HBL⟩ := hrel
      by_cases hy0 : Y = 0
      · subst hy0
        have hXG : X = G := by have := HGG.out; rw [Nat.gcd_zero_right] at this; exact this
        subst hXG
        have Z1 := HBL.out
        have k2 := Z1.one.neg
        obtain ⟨D, hD⟩ : ∃ Q, Q = d / X := ⟨_, rfl⟩
        have hD9 : D < 1000000000 := by rw [hD]; exact Nat.lt_of_le_of_lt (Nat.div_le_self _ _) hd9
        have hq2 : (d : Int).tdiv (X : Int) = (D : Int) := by rw [hD, Int.tdiv_eq_ediv_of_nonneg (by omega)]; simp
        rw [← hD] at HLD
        obtain ⟨Xi, hXi⟩ : ∃ v : Int, v = (X : Int) := ⟨_, rfl⟩
        obtain ⟨di, hdi⟩ : ∃ v : Int, v = (d : Int) := ⟨_, rfl⟩
        rw [← hXi, ← hdi] at hq2
        rw [← hXi, ← hdi]
        have hxne : Xi ≠ 0 := by omega
        have hxz : (Xi == 0) = false := by rw [beq_eq_false_iff_ne]; exact hxne
        have w2 := IntWalk.i64_in (D : Int) ⟨by omega, by omega⟩
        have HDZ := Lib.hid (zS_of_nat D)
        clear hXi hdi hD HGG HBL
        have HI1 := Lib.hid (fun wx hw => HI.out 0 wx hw (by omega) (by omega))
        obtain ⟨ns, hns⟩ : ∃ s, s = zS 0 := ⟨_, rfl⟩
        have HNS := Lib.hid (show zS (lowN z d) = ns by rw [HLZ.out, hns])
        rw [← hns] at HI1
        clear hns HLN
        have HI2 := Lib.hid (fun wx hw => HI.out (D : Int) wx hw (by omega) (by omega))
        rw [HDZ.out] at HI2
        obtain ⟨ds, hds⟩ : ∃ s, s = str D := ⟨_, rfl⟩
        have HDS := Lib.hid (show str (lowD z d) = ds by rw [HLD.out, hds])
        rw [← hds] at HI2
        clear hds HLD HDZ
        have Z2 := Lib.hid Z1
        clear Z1
        go_wp2_with fail
        go_quiet (fail)
        have Z3 := Lib.hid (Z2.out.to (below_drewN (Below.refl _ _) nq))
        have k5 := Z3.out.one.neg
        go_wp2_with fail
        refine (HI1.out _ (HS.out.below Z3.out.below)).mono ?_
        rintro e w5 ⟨rfl, h5⟩
        have Z5 := Lib.hid (Z3.out.to h5)
        clear h5
        go_wp2_with fail
        refine (HI2.out _ (HS.out.below Z5.out.below)).mono ?_
        rintro e w6 ⟨rfl, h6⟩
        have Z6 := Z5.out.to h6
        have f0 := Z6.res.free 0
        have e0 := Z6.res.c0
        have e1 := Z6.res.c1
        have S0 := Z6.res.set0 (.string ns)
        have S1 := S0.set1 (.string ds)
        have f1 := S0.free 1
        have g1 := S0.c1
        have u0 := S1.c0
        have u1 := S1.c1
        have HBE := Lib.hid ((Z6.below.setCell (p := ⟨w.heap.size + 1, 0, none⟩) (by show w.heap.size ≤ w.heap.size + 1; omega) (.string ns)).setCell (p := ⟨w.heap.size + 1, 1, none⟩) (by show w.heap.size ≤ w.heap.size + 1; omega) (.string ds))
        clear S0 S1 h6 Z6
        go_wp2_with fail
        (try simp only [Exit.inBlock, Exit.then])
        refine bodyPost_ret (v := ratV ns ds) ?_ rfl ⟨by rw [HNS.out, HDS.out], HBE.out⟩
        rw [results_cell_one rfl]
        go_simp
      · have hgt : (0 : Int) < (Y : Int) := by omega
        obtain ⟨R, hR⟩ : ∃ R, R = X % Y := ⟨_, rfl⟩
        have hRY : R < Y := by rw [hR]; exact Nat.mod_lt _ (by omega)
        have HG2 := Lib.hid (show Nat.gcd Y R = G by rw [hR, Nat.gcd_comm, ← Nat.gcd_rec, Nat.gcd_comm]; exact HGG.out)
        have hr1 : (X : Int).tmod (Y : Int) = (R : Int) := by rw [hR, Int.tmod_eq_emod_of_nonneg (by omega)]; simp
        have HYR := Lib.hid hRY
        obtain ⟨Xi, hXi⟩ : ∃ v : Int, v = (X : Int) := ⟨_, rfl⟩
        obtain ⟨Yi, hYi⟩ : ∃ v : Int, v = (Y : Int) := ⟨_, rfl⟩
        have HYI := Lib.hid hYi
        rw [← hXi, ← hYi] at hr1
        rw [← hYi] at hgt
        rw [← hXi, ← hYi]
        have hyne : Yi ≠ 0 := by omega
        have hyz : (Yi == 0) = false := by rw [beq_eq_false_iff_ne]; exact hyne
        have w1 := IntWalk.i64_in (R : Int) ⟨by omega, by omega⟩
        have HBB := HBL
        clear hR hXi hYi HGG hy0 HBL
        go_wp2_with fail
        go_quiet (fail)
        go_wp2_with fail
        all_goals go_roundw
        case rel => exact ⟨Y, R, by rw [HYI.out], rfl, hY, by have := HYR.out; omega, HG2, HBB.out.to (below_drewN (Below.refl _ _) _)⟩
        case measure => rw [HYI.out]; simp [intOf]; have := HYR.out; omega
  · have hm1 : m = 1 := by omega
    subst hm1
    clear hN0 hN
    go_enter Tryz.func73, Tryz.ntmps73
    go_upto_region 1 with fail
    obtain ⟨W0, hW0⟩ : ∃ W0, W0 = (w.alloc (.cells #[.bool b1, .slice a 1 ca] 43)).alloc (.cells #[.string ⟨#[]⟩, .string ⟨#[]⟩] 24) := ⟨_, rfl⟩
    rw [← hW0] at HX0 ⊢
    clear hW0
    have k1 := HX0.one.dig
    have Z0 := Lib.hid HX0
    obtain ⟨g, rfl, hce⟩ := HCE.out hm0 W0 HX0.below
    clear HX0 hm0
    go_wp2_with fail
    clear k1 hce
    go_loopw [6, 7] (fun xv yv wr => ∃ X Y : Nat, xv = .int .i64 (X : Int) ∧ yv = .int .i64 (Y : Int) ∧ X < 1000000000 ∧ Y < 1000000000 ∧ Hid (Nat.gcd X Y = G) ∧ Hid (Bl w wr b1 (.slice (some ⟨g, 0, none⟩) 1 ca))) (fun _ yv _ => (intOf yv).toNat)
    case atStart => exact ⟨N, d, rfl, rfl, hN9, hd9, HG, Z0⟩
    case round =>
      obtain ⟨X, Y, rfl, rfl, hX, hY, HGG, HBL⟩ := hrel
      by_cases hy0 : Y = 0
      · subst hy0
        have hXG : X = G := by have := HGG.out; rw [Nat.gcd_zero_right] at this; exact this
        subst hXG
        have Z1 := HBL.out
        have k2 := Z1.one.neg
        obtain ⟨Q, hQ⟩ : ∃ Q, Q = N / X := ⟨_, rfl⟩
        obtain ⟨D, hD⟩ : ∃ Q, Q = d / X := ⟨_, rfl⟩
        have hQ9 : Q < 1000000000 := by rw [hQ]; exact Nat.lt_of_le_of_lt (Nat.div_le_self _ _) hN9
        have hD9 : D < 1000000000 := by rw [hD]; exact Nat.lt_of_le_of_lt (Nat.div_le_self _ _) hd9
        have hq1 : (N : Int).tdiv (X : Int) = (Q : Int) := by rw [hQ, Int.tdiv_eq_ediv_of_nonneg (by omega)]; simp
        have hq2 : (d : Int).tdiv (X : Int) = (D : Int) := by rw [hD, Int.tdiv_eq_ediv_of_nonneg (by omega)]; simp
        rw [← hQ] at HLN
        rw [← hD] at HLD
        obtain ⟨Xi, hXi⟩ : ∃ v : Int, v = (X : Int) := ⟨_, rfl⟩
        obtain ⟨Ni, hNi⟩ : ∃ v : Int, v = (N : Int) := ⟨_, rfl⟩
        obtain ⟨di, hdi⟩ : ∃ v : Int, v = (d : Int) := ⟨_, rfl⟩
        rw [← hXi, ← hNi] at hq1
        rw [← hXi, ← hdi] at hq2
        rw [← hXi, ← hNi, ← hdi]
        have hxne : Xi ≠ 0 := by omega
        have hxz : (Xi == 0) = false := by rw [beq_eq_false_iff_ne]; exact hxne
        have w1 := IntWalk.i64_in (Q : Int) ⟨by omega, by omega⟩
        have w2 := IntWalk.i64_in (D : Int) ⟨by omega, by omega⟩
        have w3 := IntWalk.i64_in (-(Q : Int)) ⟨by omega, by omega⟩
        have HDZ := Lib.hid (zS_of_nat D)
        clear hXi hNi hdi hQ hD HGG HBL
        cases b1 with
        | false =>
          have HV := Lib.hid (show lowN z d = (Q : Int) by rw [HLN.out, if_neg (by decide)])
          have HI1 := Lib.hid (fun wx hw => HI.out (Q : Int) wx hw (by omega) (by omega))
          obtain ⟨ns, hns⟩ : ∃ s, s = zS (Q : Int) := ⟨_, rfl⟩
          have HNS := Lib.hid (show zS (lowN z d) = ns by rw [HV.out, hns])
          rw [← hns] at HI1
          clear hns HLN HV
          have HI2 := Lib.hid (fun wx hw => HI.out (D : Int) wx hw (by omega) (by omega))
          rw [HDZ.out] at HI2
          obtain ⟨ds, hds⟩ : ∃ s, s = str D := ⟨_, rfl⟩
          have HDS := Lib.hid (show str (lowD z d) = ds by rw [HLD.out, hds])
          rw [← hds] at HI2
          clear hds HLD HDZ
          have Z2 := Lib.hid Z1
          clear Z1
          go_wp2_with fail
          go_quiet (fail)
          have Z3 := Lib.hid (Z2.out.to (below_drewN (Below.refl _ _) nq))
          have k5 := Z3.out.one.neg
          go_wp2_with fail
          refine (HI1.out _ (HS.out.below Z3.out.below)).mono ?_
          rintro e w5 ⟨rfl, h5⟩
          have Z5 := Lib.hid (Z3.out.to h5)
          clear h5
          go_wp2_with fail
          refine (HI2.out _ (HS.out.below Z5.out.below)).mono ?_
          rintro e w6 ⟨rfl, h6⟩
          have Z6 := Z5.out.to h6
          have f0 := Z6.res.free 0
          have e0 := Z6.res.c0
          have e1 := Z6.res.c1
          have S0 := Z6.res.set0 (.string ns)
          have S1 := S0.set1 (.string ds)
          have f1 := S0.free 1
          have g1 := S0.c1
          have u0 := S1.c0
          have u1 := S1.c1
          have HBE := Lib.hid ((Z6.below.setCell (p := ⟨w.heap.size + 1, 0, none⟩) (by show w.heap.size ≤ w.heap.size + 1; omega) (.string ns)).setCell (p := ⟨w.heap.size + 1, 1, none⟩) (by show w.heap.size ≤ w.heap.size + 1; omega) (.string ds))
          clear S0 S1 h6 Z6
          go_wp2_with fail
          (try simp only [Exit.inBlock, Exit.then])
          refine bodyPost_ret (v := ratV ns ds) ?_ rfl ⟨by rw [HNS.out, HDS.out], HBE.out⟩
          rw [results_cell_one rfl]
          go_simp
        | true =>
          have HV := Lib.hid (show lowN z d = -(Q : Int) by rw [HLN.out, if_pos rfl])
          have HI1 := Lib.hid (fun wx hw => HI.out (-(Q : Int)) wx hw (by omega) (by omega))
          obtain ⟨ns, hns⟩ : ∃ s, s = zS (-(Q : Int)) := ⟨_, rfl⟩
          have HNS := Lib.hid (show zS (lowN z d) = ns by rw [HV.out, hns])
          rw [← hns] at HI1
          clear hns HLN HV
          have HI2 := Lib.hid (fun wx hw => HI.out (D : Int) wx hw (by omega) (by omega))
          rw [HDZ.out] at HI2
          obtain ⟨ds, hds⟩ : ∃ s, s = str D := ⟨_, rfl⟩
          have HDS := Lib.hid (show str (lowD z d) = ds by rw [HLD.out, hds])
          rw [← hds] at HI2
          clear hds HLD HDZ
          have Z2 := Lib.hid Z1
          clear Z1
          go_wp2_with fail
          go_quiet (fail)
          have Z3 := Lib.hid (Z2.out.to (below_drewN (Below.refl _ _) nq))
          have k5 := Z3.out.one.neg
          go_wp2_with fail
          refine (HI1.out _ (HS.out.below Z3.out.below)).mono ?_
          rintro e w5 ⟨rfl, h5⟩
          have Z5 := Lib.hid (Z3.out.to h5)
          clear h5
          go_wp2_with fail
          refine (HI2.out _ (HS.out.below Z5.out.below)).mono ?_
          rintro e w6 ⟨rfl, h6⟩
          have Z6 := Z5.out.to h6
          have f0 := Z6.res.free 0
          have e0 := Z6.res.c0
          have e1 := Z6.res.c1
          have S0 := Z6.res.set0 (.string ns)
          have S1 := S0.set1 (.string ds)
          have f1 := S0.free 1
          have g1 := S0.c1
          have u0 := S1.c0
          have u1 := S1.c1
          have HBE := Lib.hid ((Z6.below.setCell (p := ⟨w.heap.size + 1, 0, none⟩) (by show w.heap.size ≤ w.heap.size + 1; omega) (.string ns)).setCell (p := ⟨w.heap.size + 1, 1, none⟩) (by show w.heap.size ≤ w.heap.size + 1; omega) (.string ds))
          clear S0 S1 h6 Z6
          go_wp2_with fail
          (try simp only [Exit.inBlock, Exit.then])
          refine bodyPost_ret (v := ratV ns ds) ?_ rfl ⟨by rw [HNS.out, HDS.out], HBE.out⟩
          rw [results_cell_one rfl]
          go_simp
      · have hgt : (0 : Int) < (Y : Int) := by omega
        obtain ⟨R, hR⟩ : ∃ R, R = X % Y := ⟨_, rfl⟩
        have hRY : R < Y := by rw [hR]; exact Nat.mod_lt _ (by omega)
        have HG2 := Lib.hid (show Nat.gcd Y R = G by rw [hR, Nat.gcd_comm, ← Nat.gcd_rec, Nat.gcd_comm]; exact HGG.out)
        have hr1 : (X : Int).tmod (Y : Int) = (R : Int) := by rw [hR, Int.tmod_eq_emod_of_nonneg (by omega)]; simp
        have HYR := Lib.hid hRY
        obtain ⟨Xi, hXi⟩ : ∃ v : Int, v = (X : Int) := ⟨_, rfl⟩
        obtain ⟨Yi, hYi⟩ : ∃ v : Int, v = (Y : Int) := ⟨_, rfl⟩
        have HYI := Lib.hid hYi
        rw [← hXi, ← hYi] at hr1
        rw [← hYi] at hgt
        rw [← hXi, ← hYi]
        have hyne : Yi ≠ 0 := by omega
        have hyz : (Yi == 0) = false := by rw [beq_eq_false_iff_ne]; exact hyne
        have w1 := IntWalk.i64_in (R : Int) ⟨by omega, by omega⟩
        have HBB := HBL
        clear hR hXi hYi HGG hy0 HBL
        go_wp2_with fail
        go_quiet (fail)
        go_wp2_with fail
        all_goals go_roundw
        case rel => exact ⟨Y, R, by rw [HYI.out], rfl, hY, by have := HYR.out; omega, HG2, HBB.out.to (below_drewN (Below.refl _ _) _)⟩
        case measure => rw [HYI.out]; simp [intOf]; have := HYR.out; omega
end Go.Proofs.YtdgbplppabalgaaGreatDoor
