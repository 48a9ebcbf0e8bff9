/-
  Texts of one seat, joined: YMul YOrd YPlus YMinus.
-/
import Derived.Test.YtdgbplppabalgaaGreatDoorJ21
import Derived.Deep.Cut
import Derived.Deep.CutRange
import Derived.Test.YtdgbplppabalgaaGreatDoorJ14
import Derived.Test.YtdgbplppabalgaaGreatDoorJ13
import Derived.Test.YtdgbplppabalgaaGreatDoorJ15
namespace Go.Proofs.YtdgbplppabalgaaGreatDoor
open Go.RowKit

/-- two boxes and the cell of the result -/
structure Bw (w W : World) (b1 : Bool) (v1 : Value) (b2 : Bool) (v2 : Value) : Prop where
  below : Below w.heap.size w W
  one : BxO W w.heap.size w.heap.size b1 v1
  two : BxO W w.heap.size (w.heap.size + 1) b2 v2
  res : BxO W w.heap.size (w.heap.size + 1 + 1) false (.slice none 0 0)
theorem Bw.to {w W W' : World} {b1 : Bool} {v1 : Value} {b2 : Bool} {v2 : Value} (h : Bw w W b1 v1 b2 v2) (hb : Below W.heap.size W W') : Bw w W' b1 v1 b2 v2 :=
  ⟨h.below.trans (hb.mono h.below.size), h.one.kept hb, h.two.kept hb, h.res.kept hb⟩
theorem Bw.new (w : World) (b1 : Bool) (v1 : Value) (b2 : Bool) (v2 : Value) : Bw w (((w.alloc (.cells #[.bool b1, v1] 43)).alloc (.cells #[.bool b2, v2] 43)).alloc (.cells #[.bool false, .slice none 0 0] 43)) b1 v1 b2 v2 := by
  have h1 := BxO.new (w.alloc (.cells #[.bool b1, v1] 43)) w.heap.size (by rw [push_size]; omega) b2 v2
  have h2 := BxO.new ((w.alloc (.cells #[.bool b1, v1] 43)).alloc (.cells #[.bool b2, v2] 43)) w.heap.size (by rw [push_size, push_size]; omega) false (.slice none 0 0)
  rw [push_size] at h1
  rw [push_size, push_size] at h2
  exact ⟨(((Below.refl _ w).alloc (Nat.le_refl _) _).alloc (by rw [push_size]; omega) _).alloc (by rw [push_size, push_size]; omega) _, ((BxO.new w w.heap.size (Nat.le_refl _) b1 v1).alloc _).alloc _, h1.alloc _, h2⟩
theorem Bw.lt {w W : World} {b1 : Bool} {v1 : Value} {b2 : Bool} {v2 : Value} (h : Bw w W b1 v1 b2 v2) : w.heap.size + 3 ≤ W.heap.size := by have := h.res.lt.2; omega
theorem Bw.drewN {w W : World} {b1 : Bool} {v1 : Value} {b2 : Bool} {v2 : Value} (h : Bw w W b1 v1 b2 v2) (n : Nat) : Bw w (W.drewN n) b1 v1 b2 v2 := ⟨below_drewN h.below n, h.one, h.two, h.res⟩
theorem neq_sign {x y : Int} (h : x * y ≠ 0) : (decide (x < 0) != decide (y < 0)) = decide (x * y < 0) := by
  have hx : x ≠ 0 := fun q => h (by rw [q, Int.zero_mul])
  have hy : y ≠ 0 := fun q => h (by rw [q, Int.mul_zero])
  rcases (by omega : x < 0 ∨ 0 < x) with h1 | h1 <;> rcases (by omega : y < 0 ∨ 0 < y) with h2 | h2
  · have := Int.mul_pos_of_neg_of_neg h1 h2
    rw [decide_eq_true h1, decide_eq_true h2, decide_eq_false (by omega)]; rfl
  · have := Int.mul_neg_of_neg_of_pos h1 h2
    rw [decide_eq_true h1, decide_eq_false (by omega), decide_eq_true this]; rfl
  · have := Int.mul_neg_of_pos_of_neg h1 h2
    rw [decide_eq_false (by omega), decide_eq_true h2, decide_eq_true this]; rfl
  · have := Int.mul_pos h1 h2
    rw [decide_eq_false (by omega), decide_eq_false (by omega), decide_eq_false (by omega)]; rfl
set_option maxHeartbeats 6400000 in
set_option maxRecDepth 100000 in
theorem mulWY_any (b1 : Bool) (a : Option Addr) (ca : Nat) (p : List Nat) (x : Int) (b2 : Bool) (b : Option Addr) (cb : Nat) (q : List Nat) (y : Int) (w : World) (ha : Wh w b1 a ca p x) (hb : Wh w b2 b cb q y) (hpl : p.length ≤ 50000) (hql : q.length ≤ 50000) :
    Calls Tryz.prog 92 #[whV b1 a ca p, whV b2 b cb q] w fun e w' => (∃ (b3 : Bool) (o : Option Addr) (c : Nat) (r : List Nat), e = .returned (whV b3 o c r) ∧ Wf w.heap.size w' b3 o c r (x * y)) ∧ Below w.heap.size w w' := by
  obtain ⟨i0, hi, hz0, hz1, hz2⟩ := info_parts infoZ
  have h1 := ha.pd.lc
  have h2 := ha.pd.lim
  have h3 := hb.pd.lc
  have h4 := hb.pd.lim
  have HSG := Lib.hid (show x * y ≠ 0 → (b1 != b2) = decide (x * y < 0) from fun h => by rw [ha.neg, hb.neg]; exact neq_sign h)
  have HPQ := Lib.hid (show pv p * pv q = (x * y).natAbs by rw [ha.pcs.val, hb.pcs.val, Int.natAbs_mul])
  have HV : Hid (lt9 p ∧ lt9 q) := ⟨ha.pd.nine, hb.pd.nine⟩
  have HX0 := Bw.new w b1 (.slice a p.length ca) b2 (.slice b q.length cb)
  unfold whV
  obtain ⟨m, hm⟩ : ∃ m, m = p.length := ⟨_, rfl⟩
  obtain ⟨n, hn⟩ : ∃ m, m = q.length := ⟨_, rfl⟩
  have HM := Lib.hid hm
  have HN := Lib.hid hn
  rw [← hm] at h1 hpl HX0 ⊢
  rw [← hn] at h3 hql HX0 ⊢
  clear hm hn
  go_enter Tryz.func92, Tryz.ntmps92
  go_upto_region 1 with fail
  obtain ⟨W0, hW0⟩ : ∃ W0, W0 = ((w.alloc (.cells #[.bool b1, .slice a m ca] 43)).alloc (.cells #[.bool b2, .slice b n cb] 43)).alloc (.cells #[.bool false, .slice none 0 0] 43) := ⟨_, rfl⟩
  rw [← hW0] at HX0 ⊢
  clear hW0
  have HBX := Lib.hid HX0
  have HPA := Lib.hid (fun (wx : World) (hw : Below W0.heap.size W0 wx) i hi => ((ha.pd.below HX0.below).below hw).at i (by rw [← HM.out]; exact hi))
  have HQB := Lib.hid (fun (wx : World) (hw : Below W0.heap.size W0 wx) i hi => ((hb.pd.below HX0.below).below hw).at i (by rw [← HN.out]; exact hi))
  have c1 := HX0.one.dig
  have c2 := HX0.two.dig
  have HLT := Lib.hid HX0.lt
  clear ha hb HX0
  go_wp2_with (at_make; refine wpList_make_full _ rfl _ _ 41 rfl W0.heap.size 3 i0 (.int .i64 0) 1 Tryz.underlying41 hi hz0 hz1 .i64 .i64 _ _ (m + n + 1) rfl rfl (by omega) (by omega) (by rw [hz2]; omega) (by unfold maxLen; omega) (Nat.le_refl _) ?_; intro w0 hown0 hgrow0)
  have hbel0 : Below W0.heap.size W0 w0 := (Below.refl _ _).grown hgrow0 (Nat.le_refl _) (by intro k hk; cases hk)
  have HB0 := Lib.hid hbel0
  have HR0 := Lib.hid (Ow.made hown0)
  clear hown0 hgrow0 hbel0
  obtain ⟨N, hN⟩ : ∃ N, N = m + n + 1 := ⟨_, rfl⟩
  have hNi : ((m + n + 1 : Nat) : Int) = (N : Int) := by omega
  rw [← hN] at HR0 ⊢
  have HNN := Lib.hid hN
  have hNle : N ≤ 200001 := by omega
  clear hN hNi
  go_wp2_with fail
  go_loopw [6, 7, 8] (fun iv _ _ wr => ∃ (i : Nat) (L : List Nat), iv = .int .i64 (i : Int) ∧ i ≤ m ∧ Hid (L.length = N ∧ lt9 L ∧ pv L = pv (p.take i) * pv q ∧ (∀ t (h : t < L.length), i + n ≤ t → L[t] = 0)) ∧ Hid (Ow wr W0.heap.size (some ⟨W0.heap.size, 0, none⟩) N L) ∧ Hid (Below W0.heap.size W0 wr)) (fun iv _ _ _ => m - (intOf iv).toNat)
  case atStart => exact ⟨0, List.replicate N 0, rfl, Nat.zero_le _, ⟨by simp, lt9_replicate _, by rw [pv_replicate]; simp [pv], fun t ht _ => by simp⟩, HR0, HB0⟩
  case round =>
    obtain ⟨i, L, rfl, hi2, HI, HO, HB⟩ := hrel
    have HBW := Lib.hid (HBX.out.to HB.out)
    have kx1 := HBW.out.one.dig
    have kx2 := HBW.out.two.dig
    by_cases hlt : i < m
    · obtain ⟨g, rfl, hca⟩ := HPA.out W0 (Below.refl _ _) i hlt
      have HCX := Lib.hid (show ∀ wx, Below W0.heap.size W0 wx → wx.cell? ⟨g, i, none⟩ = some (.int .i64 ((p.getD i 0 : Nat) : Int)) from fun wx hw => by
        obtain ⟨g2, e, h⟩ := HPA.out wx hw i hlt
        have : g = g2 := by injection e with e; injection e
        rw [this]; exact h)
      have hx9 := getD_lt HV.out.1 i
      have HTS := Lib.hid (pv_take_d p i)
      obtain ⟨x, hx⟩ : ∃ x, x = p.getD i 0 := ⟨_, rfl⟩
      rw [← hx] at HCX hx9 HTS
      clear hx hca
      go_wp2_with fail
      go_loopw [7, 8] (fun cv jv wr => ∃ (j c : Nat) (L : List Nat), cv = .int .i64 (c : Int) ∧ jv = .int .i64 (j : Int) ∧ j ≤ n + 1 ∧ c < 1000000000 ∧ (n < j → c = 0) ∧ Hid (L.length = N ∧ lt9 L ∧ pv L + 1000000000 ^ (i + j) * c = pv (p.take i) * pv q + 1000000000 ^ i * (x * pv (q.take j)) ∧ (∀ t (h : t < L.length), i + n + 1 ≤ t → L[t] = 0) ∧ (j ≤ n → ∀ (h : i + n < L.length), L[i + n] = 0)) ∧ Hid (Ow wr W0.heap.size (some ⟨W0.heap.size, 0, none⟩) N L) ∧ Hid (Below W0.heap.size W0 wr)) (fun _ jv _ => n + 1 - (intOf jv).toNat)
      case atStart =>
        exact ⟨0, 0, L, rfl, rfl, Nat.zero_le _, by decide, fun h => absurd h (by omega), ⟨HI.out.1, HI.out.2.1, by rw [HI.out.2.2.1]; simp [pv], fun t ht hk => HI.out.2.2.2 t ht (by omega), fun _ h => HI.out.2.2.2 _ h (Nat.le_refl _)⟩, HO, HB⟩
      case round =>
        obtain ⟨j, c, L', rfl, rfl, hj, hc, hcj, HJ, HO2, HB2⟩ := hrel
        have HBY := Lib.hid (HBX.out.to HB2.out)
        have ky1 := HBY.out.one.dig
        have ky2 := HBY.out.two.dig
        have hLN := HJ.out.1
        by_cases hjn : j < n
        · obtain ⟨g2, rfl, hcb⟩ := HQB.out wr HB2.out j hjn
          have hcx := HCX.out wr HB2.out
          have hy9 := getD_lt HV.out.2 j
          have HTB := Lib.hid (pv_take_d q j)
          obtain ⟨y, hy⟩ : ∃ y, y = q.getD j 0 := ⟨_, rfl⟩
          rw [← hy] at hcb hy9 HTB
          have hkj : i + j < L'.length := by have := HNN.out; omega
          have hkN : ((i : Int) + j) < N := by have := HNN.out; omega
          have hcp := HO2.out.cell (i + j) hkj
          have hfp := HO2.out.free (i + j)
          have hl9 := lt9_at HJ.out.2.1 (i + j) hkj
          have hin := mul_inner (y := y) hkj HJ.out.2.2.1
          obtain ⟨l, hl⟩ : ∃ l : Nat, l = L'[i + j] := ⟨_, rfl⟩
          rw [← hl] at hcp hl9 hin
          have hmc := mul_carry hc hl9 hx9 hy9
          obtain ⟨z, hz⟩ : ∃ z : Nat, z = x * y := ⟨_, rfl⟩
          have hxy : (x : Int) * (y : Int) = (z : Int) := by rw [hz]; simp
          rw [← hz] at hin hmc
          obtain ⟨T, hT⟩ : ∃ T, T = c + (l + z) := ⟨_, rfl⟩
          rw [← hT] at hin hmc
          obtain ⟨u, hu⟩ : ∃ u, u = c + l := ⟨_, rfl⟩
          have hui : (c : Int) + (l : Int) = (u : Int) := by omega
          have hTi : (u : Int) + (z : Int) = (T : Int) := by omega
          obtain ⟨r, hr⟩ : ∃ r, r = T % 1000000000 := ⟨_, rfl⟩
          obtain ⟨d, hd⟩ : ∃ d, d = T / 1000000000 := ⟨_, rfl⟩
          have hri : (T : Int).tmod 1000000000 = (r : Int) := by rw [Int.tmod_eq_emod_of_nonneg (by omega)]; omega
          have hrm : (T : Int) % 1000000000 = (r : Int) := by omega
          have hdi : (T : Int).tdiv 1000000000 = (d : Int) := by rw [Int.tdiv_eq_ediv_of_nonneg (by omega)]; omega
          have hdm : (T : Int) / 1000000000 = (d : Int) := by omega
          have hr9 : r < 1000000000 := by omega
          have hd9 : d < 1000000000 := by omega
          rw [← hr, ← hd] at hin
          have wz := IntWalk.i64_in (z : Int) ⟨by omega, by omega⟩
          have wT := IntWalk.i64_in (T : Int) ⟨by omega, by omega⟩
          have wu := IntWalk.i64_in (u : Int) ⟨by omega, by omega⟩
          have hn1 : (j : Int) < n := by omega
          have HIN := Lib.hid hin
          have HJ2 := Lib.hid (show (L'.set (i + j) r).length = N ∧ lt9 (L'.set (i + j) r) ∧ pv (L'.set (i + j) r) + 1000000000 ^ (i + (j + 1)) * d = pv (p.take i) * pv q + 1000000000 ^ i * (x * pv (q.take (j + 1))) ∧ (∀ t (h : t < (L'.set (i + j) r).length), i + n + 1 ≤ t → (L'.set (i + j) r)[t] = 0) ∧ (j + 1 ≤ n → ∀ (h : i + n < (L'.set (i + j) r).length), (L'.set (i + j) r)[i + n] = 0) from by
            refine ⟨by rw [List.length_set]; exact hLN, lt9_set HJ.out.2.1 hr9, by rw [HTB.out]; exact HIN.out, fun t ht hk => ?_, fun _ h => ?_⟩
            · rw [List.getElem_set_ne (by omega)]; exact HJ.out.2.2.2.1 t (by rw [List.length_set] at ht; exact ht) hk
            · rw [List.getElem_set_ne (by omega)]; exact HJ.out.2.2.2.2 (by omega) (by rw [List.length_set] at h; exact h))
          have HW := Lib.hid (fun nq => (HO2.out.drewN nq).set (i + j) r)
          have HBV := Lib.hid (fun nq => (below_drewN HB2.out nq).setCell (p := ⟨W0.heap.size, i + j, none⟩) (Nat.le_refl _) (.int .i64 (r : Int)))
          clear hy hl hz hT hu hr hd hin hmc hcj HJ HIN HTB HO2
          go_wp2_with fail
          go_quiet (fail)
          go_wp2_with fail
          all_goals go_roundw
          case rel => exact ⟨j + 1, d, L'.set (i + j) r, rfl, by go_num, by omega, hd9, fun h => absurd h (by omega), HJ2, HW.out _, HBV.out _⟩
          case measure => simp [intOf] <;> omega
        · by_cases hc0 : 0 < c
          · have hjn2 : j = n := by
              apply Classical.byContradiction; intro h; have := hcj (by omega); omega
            subst hjn2
            have hkj : i + j < L'.length := by have := HNN.out; omega
            have hkN : ((i : Int) + j) < N := by have := HNN.out; omega
            have hl0 := HJ.out.2.2.2.2 (Nat.le_refl _) hkj
            have hcp := HO2.out.cell (i + j) hkj
            rw [hl0] at hcp
            have hfp := HO2.out.free (i + j)
            have hst := set_last hkj hl0 HJ.out.2.2.1
            have hri : (c : Int).tmod 1000000000 = (c : Int) := by rw [Int.tmod_eq_emod_of_nonneg (by omega)]; omega
            have hrm : (c : Int) % 1000000000 = (c : Int) := by omega
            have hdi : (c : Int).tdiv 1000000000 = 0 := by rw [Int.tdiv_eq_ediv_of_nonneg (by omega)]; omega
            have hdm : (c : Int) / 1000000000 = 0 := by omega
            have wc := IntWalk.i64_in (c : Int) ⟨by omega, by omega⟩
            have hci : (0 : Int) < (c : Int) := by omega
            have HJ2 := Lib.hid (show (L'.set (i + j) c).length = N ∧ lt9 (L'.set (i + j) c) ∧ pv (L'.set (i + j) c) + 1000000000 ^ (i + (j + 1)) * 0 = pv (p.take i) * pv q + 1000000000 ^ i * (x * pv (q.take (j + 1))) ∧ (∀ t (h : t < (L'.set (i + j) c).length), i + j + 1 ≤ t → (L'.set (i + j) c)[t] = 0) ∧ (j + 1 ≤ j → ∀ (h : i + j < (L'.set (i + j) c).length), (L'.set (i + j) c)[i + j] = 0) from by
              refine ⟨by rw [List.length_set]; exact hLN, lt9_set HJ.out.2.1 hc, ?_, fun t ht hk => ?_, fun h => absurd h (by omega)⟩
              · rw [Nat.mul_zero, Nat.add_zero, hst, pv_all (l := q) (k := j) (by have := HN.out; omega), pv_all (l := q) (k := j + 1) (by have := HN.out; omega)]
              · rw [List.getElem_set_ne (by omega)]; exact HJ.out.2.2.2.1 t (by rw [List.length_set] at ht; exact ht) hk)
            have HW := Lib.hid (HO2.out.set (i + j) c)
            have HBV := Lib.hid (HB2.out.setCell (p := ⟨W0.heap.size, i + j, none⟩) (Nat.le_refl _) (.int .i64 (c : Int)))
            clear hl0 hst hcj HJ HO2 hc0
            go_wp2_with fail
            all_goals go_roundw
            case rel => exact ⟨j + 1, 0, L'.set (i + j) c, rfl, by go_num, by omega, by decide, fun _ => rfl, HJ2, HW.out, HBV.out⟩
            case measure => simp [intOf] <;> omega
          · have hc00 : c = 0 := by omega
            subst hc00
            have HI2 := Lib.hid (show L'.length = N ∧ lt9 L' ∧ pv L' = pv (p.take (i + 1)) * pv q ∧ (∀ t (h : t < L'.length), i + 1 + n ≤ t → L'[t] = 0) from by
              refine ⟨hLN, HJ.out.2.1, ?_, fun t ht hk => HJ.out.2.2.2.1 t ht (by omega)⟩
              have h5 := HJ.out.2.2.1
              rw [Nat.mul_zero, Nat.add_zero, pv_all (k := j) (by have := HN.out; omega)] at h5
              rw [h5, HTS.out, Nat.add_mul, Nat.mul_assoc])
            clear hcj HJ
            go_wp2_with fail
            all_goals go_roundw
            case rel => exact ⟨i + 1, L', by go_num, by omega, HI2, HO2, HB2⟩
            case measure => simp [intOf] <;> omega
    · have hI := HI.out.2.2.1
      rw [pv_all (by have := HM.out; omega), HPQ.out] at hI
      have hpd := HO.out.pd HI.out.2.1
      have hT := trimY_any (b1 != b2) (some ⟨W0.heap.size, 0, none⟩) N L wr hpd
      unfold whV at hT
      rw [HI.out.1] at hT
      have HT := Lib.hid hT
      have HNW := Lib.hid (show NewO W0.heap.size (some ⟨W0.heap.size, 0, none⟩) from HO.out.newO)
      have HWH := Lib.hid (Wh.trimmed (b1 != b2) hpd (x * y) hI HSG.out)
      have d1 := HBW.out.one.neg
      have d2 := HBW.out.two.neg
      have hlt3 := HLT.out
      clear hI hpd hT HO HI
      go_wp2_with fail
      refine HT.out.mono ?_
      rintro e w1 ⟨rfl, h1⟩
      have BW1 := HBW.out.to h1
      have B1 := Lib.hid BW1.below
      have R1 := Lib.hid BW1.res
      have HN := Lib.hid (HWH.out.below h1)
      clear h1 HT HB HBW kx1 kx2 d1 d2 BW1 HWH
      obtain ⟨V, hV⟩ : ∃ V, V = ((b1 != b2) && decide (0 < (trimP L).length)) := ⟨_, rfl⟩
      obtain ⟨M, hM⟩ : ∃ M, M = trimP L := ⟨_, rfl⟩
      rw [← hM] at hV HN ⊢
      rw [← hV] at HN ⊢
      try unfold whV
      obtain ⟨m, hm⟩ : ∃ m, m = M.length := ⟨_, rfl⟩
      have HM := Lib.hid hm
      rw [← hm]
      clear hV hM hm
      have f0 := R1.out.free 0
      have f1 := R1.out.free 1
      have e0 := R1.out.neg
      have e1 := R1.out.dig
      have Y1 := R1.out.set0 V
      have y1 := Y1.free 1
      have z1 := Y1.dig
      have Y2 := Y1.set1 (.slice (some ⟨W0.heap.size, 0, none⟩) m N)
      have u0 := Y2.neg
      have u1 := Y2.dig
      have HBE := Lib.hid ((B1.out.setCell (p := ⟨w.heap.size + 1 + 1, 0, none⟩) (by show w.heap.size ≤ w.heap.size + 1 + 1; omega) (.bool V)).setCell (p := ⟨w.heap.size + 1 + 1, 1, none⟩) (by show w.heap.size ≤ w.heap.size + 1 + 1; omega) (.slice (some ⟨W0.heap.size, 0, none⟩) m N))
      have HWE := Lib.hid ((HN.out.stored (w.heap.size + 1 + 1) 0 (.bool V) (HNW.out.ne (by omega))).stored (w.heap.size + 1 + 1) 1 (.slice (some ⟨W0.heap.size, 0, none⟩) m N) (HNW.out.ne (by omega)))
      clear Y1 Y2 R1
      go_wp2_with fail
      (try simp only [Exit.inBlock, Exit.then])
      refine bodyPost_ret (v := .agg #[.bool V, .slice (some ⟨W0.heap.size, 0, none⟩) m N]) ?_ rfl ⟨⟨V, (some ⟨W0.heap.size, 0, none⟩), N, M, by rw [HM.out], HWE.out, HNW.out.mono (by omega)⟩, HBE.out⟩
      rw [results_cell_one rfl]
      go_simp
theorem fieldY (b : Bool) (o : Option Addr) (n c : Nat) (w : World) : (Instr.field 43 (.agg #[.bool b, .slice o n c]) 1).run Tryz.prog w = .ok (.slice o n c) w := by kernel_rfl
theorem Wh.ofNat {w : World} {o : Option Addr} {c : Nat} {L : List Nat} {y : Nat} (hp : Pd w o c L) (hq : Pcs L y) : Wh w false o c L (y : Int) := ⟨hp, by rw [Int.natAbs_natCast]; exact hq, by rw [decide_eq_false (by omega)]⟩
set_option maxHeartbeats 1600000 in
set_option maxRecDepth 100000 in
theorem timesY_any (a : Option Addr) (ca : Nat) (p : List Nat) (y d : Nat) (w : World) (ha : Pd w a ca p) (hp : Pcs p y) (hd : d < 1000000000) (hpl : p.length ≤ 50000) :
    Calls Tryz.prog 119 #[.slice a p.length ca, .int .i64 (d : Int)] w fun e w' => (∃ (o : Option Addr) (c : Nat) (r : List Nat), e = .returned (.slice o r.length c) ∧ Pd w' o c r ∧ Pcs r (y * d) ∧ NewO w.heap.size o) ∧ Below w.heap.size w w' := by
  have hal := (Below.refl w.heap.size w).alloc (Nat.le_refl _) (.cells #[.int .i64 (d : Int)] 3)
  have hpd := Pd.one w d hd
  have HT := Lib.hid (trimY_any false (some ⟨w.heap.size, 0, none⟩) 1 [d] (w.alloc (.cells #[.int .i64 (d : Int)] 3)) hpd)
  have HD := Lib.hid (show ∀ wx, Below w.heap.size w wx → Below (w.alloc (.cells #[.int .i64 (d : Int)] 3)).heap.size (w.alloc (.cells #[.int .i64 (d : Int)] 3)) wx → Calls Tryz.prog 92 #[whV false a ca p, whV false (some ⟨w.heap.size, 0, none⟩) 1 (trimP [d])] wx fun e w' => (∃ (b3 : Bool) (o : Option Addr) (c : Nat) (r : List Nat), e = .returned (whV b3 o c r) ∧ Wf wx.heap.size w' b3 o c r ((y : Int) * (d : Int))) ∧ Below wx.heap.size wx w' from fun wx h1 h2 => by
    have hq : Pcs (trimP [d]) d := by
      have := Pcs.of_trim hpd.nine
      rw [pv_one] at this; exact this
    exact mulWY_any false a ca p (y : Int) false (some ⟨w.heap.size, 0, none⟩) 1 (trimP [d]) (d : Int) wx (Wh.ofNat (ha.below h1) hp) (Wh.ofNat (hpd.trim.below h2) hq) hpl (Nat.le_trans (trimP_props [d]).2.2.2.1 (by simp)))
  have HB := Lib.hid hal
  have HYD := Lib.hid (show ((y : Int) * (d : Int)).natAbs = y * d by rw [Int.natAbs_mul]; rfl)
  unfold whV at HD
  obtain ⟨n, hn⟩ : ∃ n, n = p.length := ⟨_, rfl⟩
  rw [← hn] at HD ⊢
  have hfd := fieldY
  clear ha hp hpd hal hn
  go_enter Tryz.func119, Tryz.ntmps119
  go_wp2_with fail
  refine HT.out.mono ?_
  rintro e w1 ⟨rfl, h1⟩
  have B1 := Lib.hid (HB.out.trans (h1.mono HB.out.size))
  have HD1 := Lib.hid (HD.out w1 B1.out h1)
  clear h1 HT HD
  go_wp2_with fail
  refine HD1.out.mono ?_
  rintro e w2 ⟨⟨b3, o, c, r, rfl, hw⟩, h2⟩
  have B2 := Lib.hid (B1.out.trans (h2.mono B1.out.size))
  have HP := Lib.hid hw.wh.pd
  have HQ := Lib.hid (show Pcs r (y * d) by rw [← HYD.out]; exact hw.wh.pcs)
  have HW := Lib.hid (hw.new.mono B1.out.size)
  clear h2 hw HD1
  go_wp2_with fail
  go_ret
  exact ⟨⟨o, c, r, rfl, HP.out, HQ.out, HW.out⟩, B2.out⟩
end Go.Proofs.YtdgbplppabalgaaGreatDoor

namespace Go.Proofs.YtdgbplppabalgaaGreatDoor
open Go.RowKit

set_option maxHeartbeats 1600000 in
theorem aboveY_any (a : Option Addr) (ca : Nat) (p : List Nat) (b : Option Addr) (cb : Nat) (q : List Nat) (x y : Nat) (w : World) (ha : Pd w a ca p) (hb : Pd w b cb q) (hp : Pcs p x) (hq : Pcs q y) :
    Calls Tryz.prog 118 #[.slice a p.length ca, .slice b q.length cb] w fun e w' => e = .returned (.int .i64 (cmpN x y)) ∧ Below w.heap.size w w' := by
  have h1 := ha.lc
  have h2 := ha.lim
  have h3 := hb.lc
  have h4 := hb.lim
  by_cases hl : p.length = q.length
  · have hne : ((p.length : Int) != (q.length : Int)) = false := by rw [hl]; simp
    have HC : Hid (∀ (wx : World), Below w.heap.size w wx → ∀ i (h : i < p.length) (h' : i < q.length), ∃ g g', a = some ⟨g, 0, none⟩ ∧ b = some ⟨g', 0, none⟩ ∧ wx.cell? ⟨g, i, none⟩ = some (.int .i64 ((p[i] : Nat) : Int)) ∧ wx.cell? ⟨g', i, none⟩ = some (.int .i64 ((q[i] : Nat) : Int))) := by
      intro wx hw i h h'
      rcases (ha.below hw).cell with ⟨_, e, _⟩ | ⟨g, e1, _, c1⟩
      · rw [e] at h; simp at h
      · rcases (hb.below hw).cell with ⟨_, e, _⟩ | ⟨g', e2, _, c2⟩
        · rw [e] at h'; simp at h'
        · exact ⟨g, g', e1, e2, c1 i h, c2 i h'⟩
    have HV : Hid (pv p = x ∧ pv q = y ∧ lt9 p ∧ lt9 q) := ⟨hp.val, hq.val, hp.lt, hq.lt⟩
    obtain ⟨V, hV⟩ : ∃ V, V = cmpN x y := ⟨_, rfl⟩
    rw [← hV]
    have HVV := Lib.hid hV
    have HL := Lib.hid hl
    clear ha hb hp hq hV hl
    obtain ⟨m, hm⟩ : ∃ m, m = p.length := ⟨_, rfl⟩
    obtain ⟨n, hn⟩ : ∃ m, m = q.length := ⟨_, rfl⟩
    have HM := Lib.hid hm
    have HN := Lib.hid hn
    rw [← hm] at h1 hne ⊢
    rw [← hn] at h3 hne ⊢
    clear hm hn
    go_enter Tryz.func118, Tryz.ntmps118
    go_wp2_with fail
    go_loopw [5] (fun iv wr => ∃ (E : Int) (k : Nat), iv = .int .i64 E ∧ -1 ≤ E ∧ E < m ∧ Hid (E = (k : Int) - 1 ∧ p.drop k = q.drop k) ∧ Below w.heap.size w wr) (fun iv _ => (intOf iv + 1).toNat)
    case atStart => exact ⟨_, m, rfl, by omega, by omega, ⟨rfl, by rw [HM.out, List.drop_length, HL.out, List.drop_length]⟩, Below.refl _ _⟩
    case round =>
      obtain ⟨E, k, rfl, hE1, hE2, HI, hbel⟩ := hrel
      have HB := Lib.hid hbel
      by_cases hk0 : k = 0
      · have hE : E = -1 := by have := HI.out.1; omega
        subst hE
        have HR := Lib.hid (show V = 0 by
          have h := HI.out.2
          rw [hk0, List.drop_zero, List.drop_zero] at h
          rw [HVV.out, ← HV.out.1, ← HV.out.2.1, h, cmp_eq])
        clear hbel
        go_wp2_with fail
        go_ret
        exact ⟨by rw [HR.out]; rfl, HB.out⟩
      · obtain ⟨j, rfl⟩ : ∃ j, k = j + 1 := ⟨k - 1, by omega⟩
        obtain rfl : E = (j : Int) := by have := HI.out.1; omega
        have hjp : j < p.length := by have := HM.out; omega
        have hjq : j < q.length := by have := HL.out; omega
        obtain ⟨g, g', rfl, rfl, hc1, hc2⟩ := HC.out wr hbel j hjp hjq
        have hd := HI.out.2
        have hjm : (j : Int) < m := by omega
        have hjn : (j : Int) < n := by have := HM.out; have := HN.out; have := HL.out; omega
        have HD1 := Lib.hid (fun (h : p[j] < q[j]) => order_lt hjp hjq HV.out.2.2.1 hd h)
        have HD2 := Lib.hid (fun (h : q[j] < p[j]) => order_lt hjq hjp HV.out.2.2.2 hd.symm h)
        have HD3 := Lib.hid (fun (h : p[j] = q[j]) => drop_eq hjp hjq hd h)
        obtain ⟨u, hu⟩ : ∃ u, u = p[j] := ⟨_, rfl⟩
        obtain ⟨v, hv⟩ : ∃ u, u = q[j] := ⟨_, rfl⟩
        rw [← hu] at hc1 HD1 HD2 HD3
        rw [← hv] at hc2 HD1 HD2 HD3
        clear hbel hd hu hv
        rcases (by omega : u < v ∨ v < u ∨ u = v) with h | h | h
        · have hb1 : decide (u < v) = true := decide_eq_true h
          have HR := Lib.hid (show V = -1 by rw [HVV.out, cmp_lt (by have := HD1.out h; rw [HV.out.1, HV.out.2.1] at this; exact this)])
          clear h
          go_wp2_with fail
          go_quiet (fail)
          go_wp2_with fail
          go_ret
          exact ⟨by rw [HR.out]; rfl, by first | exact below_drewN HB.out _ | exact below_drewN (below_drewN HB.out _) _⟩
        · have hb1 : decide (u < v) = false := decide_eq_false (by omega)
          have hb2 : decide (v < u) = true := decide_eq_true h
          have HR := Lib.hid (show V = 1 by rw [HVV.out, cmp_gt (by have := HD2.out h; rw [HV.out.1, HV.out.2.1] at this; exact this)])
          clear h
          go_wp2_with fail
          go_quiet (fail)
          go_wp2_with fail
          go_quiet (fail)
          go_wp2_with fail
          go_ret
          exact ⟨by rw [HR.out]; rfl, by first | exact below_drewN HB.out _ | exact below_drewN (below_drewN HB.out _) _⟩
        · have HD4 := Lib.hid (HD3.out h)
          subst h
          go_wp2_with fail
          go_quiet (fail)
          go_wp2_with fail
          go_quiet (fail)
          go_wp2_with fail
          all_goals go_roundw
          case rel => exact ⟨_, j, rfl, by omega, by omega, ⟨rfl, HD4.out⟩, by first | exact below_drewN HB.out _ | exact below_drewN (below_drewN HB.out _) _⟩
          case measure => simp [intOf] <;> omega
  · have hne : ((p.length : Int) != (q.length : Int)) = true := by rw [bne_iff_ne]; omega
    have HR := Lib.hid (show (p.length < q.length → cmpN x y = -1) ∧ (q.length < p.length → cmpN x y = 1) from ⟨fun h => cmp_lt (by
        apply Nat.lt_of_not_le; intro q2; have := hp.len_mono hq q2; omega), fun h => cmp_gt (by
        apply Nat.lt_of_not_le; intro q2; have := hq.len_mono hp q2; omega)⟩)
    obtain ⟨V, hV⟩ : ∃ V, V = cmpN x y := ⟨_, rfl⟩
    rw [← hV] at HR ⊢
    clear ha hb hp hq hV
    obtain ⟨m, hm⟩ : ∃ m, m = p.length := ⟨_, rfl⟩
    obtain ⟨n, hn⟩ : ∃ m, m = q.length := ⟨_, rfl⟩
    rw [← hm] at h1 hne HR ⊢
    rw [← hn] at h3 hne HR ⊢
    rcases (by omega : m < n ∨ n < m) with h | h
    · have hb1 : decide (m < n) = true := decide_eq_true h
      have HR1 := Lib.hid (HR.out.1 h)
      clear hm hn hl h HR
      go_enter Tryz.func118, Tryz.ntmps118
      go_wp2_with fail
      go_ret
      exact ⟨by rw [HR1.out]; rfl, Below.refl _ _⟩
    · have hb1 : decide (m < n) = false := decide_eq_false (by omega)
      have HR1 := Lib.hid (HR.out.2 h)
      clear hm hn hl h HR
      go_enter Tryz.func118, Tryz.ntmps118
      go_wp2_with fail
      go_ret
      exact ⟨by rw [HR1.out]; rfl, Below.refl _ _⟩
end Go.Proofs.YtdgbplppabalgaaGreatDoor

namespace Go.Proofs.YtdgbplppabalgaaGreatDoor
open Go.RowKit

set_option maxHeartbeats 3200000 in
set_option maxRecDepth 100000 in
theorem plusY_any (a : Option Addr) (ca : Nat) (p : List Nat) (b : Option Addr) (cb : Nat) (q : List Nat) (w : World) (ha : Pd w a ca p) (hb : Pd w b cb q) (hpl : p.length ≤ 100000) (hql : q.length ≤ 100000) :
    Calls Tryz.prog 133 #[.slice a p.length ca, .slice b q.length cb] w fun e w' => ∃ (o : Option Addr) (c : Nat) (r : List Nat), e = .returned (.slice o r.length c) ∧ Pd w' o c r ∧ pv r = pv p + pv q ∧ r.length ≤ 200001 ∧ NewO w.heap.size o ∧ Below w.heap.size w w' := by
  obtain ⟨i0, hi, hz0, hz1, hz2⟩ := info_parts infoZ
  have h1 := ha.lc
  have h2 := ha.lim
  have h3 := hb.lc
  have h4 := hb.lim
  have HPA := Lib.hid (fun (wx : World) (hw : Below w.heap.size w wx) i hi => (ha.below hw).at i hi)
  have HQB := Lib.hid (fun (wx : World) (hw : Below w.heap.size w wx) i hi => (hb.below hw).at i hi)
  have HV : Hid (lt9 p ∧ lt9 q) := ⟨ha.nine, hb.nine⟩
  clear ha hb
  obtain ⟨m, hm⟩ : ∃ m, m = p.length := ⟨_, rfl⟩
  obtain ⟨n, hn⟩ : ∃ m, m = q.length := ⟨_, rfl⟩
  have HM := Lib.hid hm
  have HN := Lib.hid hn
  rw [← hm] at h1 hpl HPA ⊢
  rw [← hn] at h3 hql HQB ⊢
  clear hm hn
  go_enter Tryz.func133, Tryz.ntmps133
  go_wp2_with fail
  go_loopw [5, 6, 7] (fun ov bv iv wr => ∃ (k c : Nat) (vo : Option Addr) (vc : Nat) (L : List Nat), ov = .slice vo L.length vc ∧ bv = .int .i64 (c : Int) ∧ iv = .int .i64 (k : Int) ∧ k ≤ m + n + 1 ∧ c ≤ 1 ∧ (0 < c → k ≤ m + n) ∧ L.length = k ∧ Hid (lt9 L ∧ pv L + 1000000000 ^ k * c = pv (p.take k) + pv (q.take k)) ∧ Hid (Ow wr w.heap.size vo vc L) ∧ Hid (Below w.heap.size w wr)) (fun _ _ iv _ => m + n + 1 - (intOf iv).toNat)
  case atStart => exact ⟨0, 0, none, 0, [], rfl, rfl, rfl, Nat.zero_le _, Nat.zero_le _, fun h => absurd h (by decide), rfl, ⟨by simp [lt9], by simp [pv]⟩, Ow.nil _ _, Below.refl _ _⟩
  case round =>
    obtain ⟨k, c, vo, vc, L, rfl, rfl, rfl, hk, hc, hck, hL, HI, HO, HB⟩ := hrel
    subst hL
    have hbs := HB.out.size
    have hu9 := getD_lt HV.out.1 L.length
    have hv9 := getD_lt HV.out.2 L.length
    have HPT := Lib.hid (pv_take_d p L.length)
    have HQT := Lib.hid (pv_take_d q L.length)
    have hp0 := fun (h : ¬ L.length < m) => getD_out (l := p) (k := L.length) (by have := HM.out; omega)
    have hq0 := fun (h : ¬ L.length < n) => getD_out (l := q) (k := L.length) (by have := HN.out; omega)
    have HCA := Lib.hid (HPA.out wr HB.out L.length)
    have HCB := Lib.hid (HQB.out wr HB.out L.length)
    obtain ⟨u, hu⟩ : ∃ u, u = p.getD L.length 0 := ⟨_, rfl⟩
    obtain ⟨v, hv⟩ : ∃ v, v = q.getD L.length 0 := ⟨_, rfl⟩
    rw [← hu] at HCA hu9 HPT hp0
    rw [← hv] at HCB hv9 HQT hq0
    clear hu hv
    by_cases hgo : L.length < m ∨ L.length < n ∨ 0 < c
    · obtain ⟨T, hT⟩ : ∃ T, T = c + u + v := ⟨_, rfl⟩
      obtain ⟨r, hr⟩ : ∃ r, r = T % 1000000000 := ⟨_, rfl⟩
      obtain ⟨d, hd⟩ : ∃ r, r = T / 1000000000 := ⟨_, rfl⟩
      have hr9 : r < 1000000000 := by omega
      have hd1 : d ≤ 1 := by omega
      have hkk : L.length ≤ m + n := by rcases hgo with h | h | h <;> first | omega | exact hck h
      have hri : (T : Int).tmod 1000000000 = (r : Int) := by rw [Int.tmod_eq_emod_of_nonneg (by omega)]; omega
      have hdi : (T : Int).tdiv 1000000000 = (d : Int) := by rw [Int.tdiv_eq_ediv_of_nonneg (by omega)]; omega
      have hrm : (T : Int) % 1000000000 = (r : Int) := by omega
      have hdm : (T : Int) / 1000000000 = (d : Int) := by omega
      have hck2 : 0 < d → L.length + 1 ≤ m + n := fun h => by
        by_cases h1 : L.length < m
        · omega
        · by_cases h2 : L.length < n
          · omega
          · have := hp0 h1; have := hq0 h2; omega
      have HI2 := Lib.hid (show lt9 (L ++ [r]) ∧ pv (L ++ [r]) + 1000000000 ^ (L.length + 1) * d = pv (p.take (L.length + 1)) + pv (q.take (L.length + 1)) from ⟨lt9_snoc HI.out.1 hr9, by rw [pv_snoc, HPT.out, HQT.out, hr, hd]; exact plus_step HI.out.2 hT⟩)
      have HCK := Lib.hid hck2
      have wT := IntWalk.i64_in (T : Int) ⟨by omega, by omega⟩
      by_cases hkm : L.length < m
      · obtain ⟨g, rfl, hca⟩ := HCA.out hkm
        by_cases hkn : L.length < n
        · obtain ⟨g2, rfl, hcb⟩ := HCB.out hkn
          have hs : (c : Int) + u + v = (T : Int) := by omega
          have ws := IntWalk.i64_in ((c : Int) + u) ⟨by omega, by omega⟩
          clear hck2 hr hd hT hp0 hq0 hck hgo HI HPT HQT HCA HCB
          go_wp2_with (at_builtin; refine wpList_append_own _ rfl _ _ 41 rfl w.heap.size 3 i0 (.int .i64 0) 1 8 Tryz.underlying41 hi hz0 hz1 hz2 rfl (by decide) _ _ _ rfl (World.ownsRow.alloc HO.out _) ⟨wr.heap.size, 0, none⟩ 1 1 [.int .i64 (r : Int)] rfl rfl ?c1 ?c2 ?c3 ?c4 ?c5 ?_)
          try (case c1 =>
            intro j u hj
            match j, hj with
            | 0, hj => simp at hj; subst hj; simp [Addr.add])
          try (case c2 => first | rfl | (intro u hu; simp at hu; subst hu; rfl))
          case c3 => unfold maxLen; omega
          case c4 => omega
          case c5 => first | omega | (simp; omega)
          intro v' w2 hown' hgrow _
          obtain ⟨g', cap', rfl, how⟩ := Ow.snoc (L := L) (x := r) hown' (by omega) (by first | rfl | (simp [cI]))
          have hbel2 : Below w.heap.size w w2 := (HB.out.alloc hbs _).grown hgrow (by simp; omega) (by intro q hq; exact (World.ownsRow.lt HO.out q hq).1)
          have HW2 := Lib.hid how
          have HB2 := Lib.hid hbel2
          have hln : ((L ++ [r]).length) = L.length + 1 := by simp
          have HLN := Lib.hid hln
          clear hown' hgrow how hbel2 hln
          go_wp2_with fail
          all_goals go_roundw
          case rel => exact ⟨L.length + 1, d, some ⟨g', 0, none⟩, cap', L ++ [r], rfl, rfl, by go_num, by omega, hd1, HCK.out, HLN.out, HI2, HW2, HB2⟩
          case measure => simp [intOf] <;> omega
        · have hv0 := hq0 hkn
          have hs : (c : Int) + u = (T : Int) := by omega
          clear hck2 hr hd hT hp0 hq0 hck hgo HI HPT HQT HCA HCB hv0
          go_wp2_with (at_builtin; refine wpList_append_own _ rfl _ _ 41 rfl w.heap.size 3 i0 (.int .i64 0) 1 8 Tryz.underlying41 hi hz0 hz1 hz2 rfl (by decide) _ _ _ rfl (World.ownsRow.alloc HO.out _) ⟨wr.heap.size, 0, none⟩ 1 1 [.int .i64 (r : Int)] rfl rfl ?c1 ?c2 ?c3 ?c4 ?c5 ?_)
          try (case c1 =>
            intro j u hj
            match j, hj with
            | 0, hj => simp at hj; subst hj; simp [Addr.add])
          try (case c2 => first | rfl | (intro u hu; simp at hu; subst hu; rfl))
          case c3 => unfold maxLen; omega
          case c4 => omega
          case c5 => first | omega | (simp; omega)
          intro v' w2 hown' hgrow _
          obtain ⟨g', cap', rfl, how⟩ := Ow.snoc (L := L) (x := r) hown' (by omega) (by first | rfl | (simp [cI]))
          have hbel2 : Below w.heap.size w w2 := (HB.out.alloc hbs _).grown hgrow (by simp; omega) (by intro q hq; exact (World.ownsRow.lt HO.out q hq).1)
          have HW2 := Lib.hid how
          have HB2 := Lib.hid hbel2
          have hln : ((L ++ [r]).length) = L.length + 1 := by simp
          have HLN := Lib.hid hln
          clear hown' hgrow how hbel2 hln
          go_wp2_with fail
          all_goals go_roundw
          case rel => exact ⟨L.length + 1, d, some ⟨g', 0, none⟩, cap', L ++ [r], rfl, rfl, by go_num, by omega, hd1, HCK.out, HLN.out, HI2, HW2, HB2⟩
          case measure => simp [intOf] <;> omega
      · have hu0 := hp0 hkm
        by_cases hkn : L.length < n
        · obtain ⟨g2, rfl, hcb⟩ := HCB.out hkn
          have hs : (c : Int) + v = (T : Int) := by omega
          clear hck2 hr hd hT hp0 hq0 hck hgo HI HPT HQT HCA HCB hu0
          go_wp2_with (at_builtin; refine wpList_append_own _ rfl _ _ 41 rfl w.heap.size 3 i0 (.int .i64 0) 1 8 Tryz.underlying41 hi hz0 hz1 hz2 rfl (by decide) _ _ _ rfl (World.ownsRow.alloc HO.out _) ⟨wr.heap.size, 0, none⟩ 1 1 [.int .i64 (r : Int)] rfl rfl ?c1 ?c2 ?c3 ?c4 ?c5 ?_)
          try (case c1 =>
            intro j u hj
            match j, hj with
            | 0, hj => simp at hj; subst hj; simp [Addr.add])
          try (case c2 => first | rfl | (intro u hu; simp at hu; subst hu; rfl))
          case c3 => unfold maxLen; omega
          case c4 => omega
          case c5 => first | omega | (simp; omega)
          intro v' w2 hown' hgrow _
          obtain ⟨g', cap', rfl, how⟩ := Ow.snoc (L := L) (x := r) hown' (by omega) (by first | rfl | (simp [cI]))
          have hbel2 : Below w.heap.size w w2 := (HB.out.alloc hbs _).grown hgrow (by simp; omega) (by intro q hq; exact (World.ownsRow.lt HO.out q hq).1)
          have HW2 := Lib.hid how
          have HB2 := Lib.hid hbel2
          have hln : ((L ++ [r]).length) = L.length + 1 := by simp
          have HLN := Lib.hid hln
          clear hown' hgrow how hbel2 hln
          go_wp2_with fail
          all_goals go_roundw
          case rel => exact ⟨L.length + 1, d, some ⟨g', 0, none⟩, cap', L ++ [r], rfl, rfl, by go_num, by omega, hd1, HCK.out, HLN.out, HI2, HW2, HB2⟩
          case measure => simp [intOf] <;> omega
        · have hv0 := hq0 hkn
          have hc0 : (0 : Int) < (c : Int) := by omega
          obtain rfl : c = T := by omega
          clear hck2 hr hd hT hp0 hq0 hck hgo HI HPT HQT HCA HCB hu0 hv0
          go_wp2_with (at_builtin; refine wpList_append_own _ rfl _ _ 41 rfl w.heap.size 3 i0 (.int .i64 0) 1 8 Tryz.underlying41 hi hz0 hz1 hz2 rfl (by decide) _ _ _ rfl (World.ownsRow.alloc HO.out _) ⟨wr.heap.size, 0, none⟩ 1 1 [.int .i64 (r : Int)] rfl rfl ?c1 ?c2 ?c3 ?c4 ?c5 ?_)
          try (case c1 =>
            intro j u hj
            match j, hj with
            | 0, hj => simp at hj; subst hj; simp [Addr.add])
          try (case c2 => first | rfl | (intro u hu; simp at hu; subst hu; rfl))
          case c3 => unfold maxLen; omega
          case c4 => omega
          case c5 => first | omega | (simp; omega)
          intro v' w2 hown' hgrow _
          obtain ⟨g', cap', rfl, how⟩ := Ow.snoc (L := L) (x := r) hown' (by omega) (by first | rfl | (simp [cI]))
          have hbel2 : Below w.heap.size w w2 := (HB.out.alloc hbs _).grown hgrow (by simp; omega) (by intro q hq; exact (World.ownsRow.lt HO.out q hq).1)
          have HW2 := Lib.hid how
          have HB2 := Lib.hid hbel2
          have hln : ((L ++ [r]).length) = L.length + 1 := by simp
          have HLN := Lib.hid hln
          clear hown' hgrow how hbel2 hln
          go_wp2_with fail
          all_goals go_roundw
          case rel => exact ⟨L.length + 1, d, some ⟨g', 0, none⟩, cap', L ++ [r], rfl, rfl, by go_num, by omega, hd1, HCK.out, HLN.out, HI2, HW2, HB2⟩
          case measure => simp [intOf] <;> omega
    · have hkm : ¬ L.length < m := fun h => hgo (.inl h)
      have hkn : ¬ L.length < n := fun h => hgo (.inr (.inl h))
      have hc0 : c = 0 := by omega
      subst hc0
      have hI := HI.out.2
      rw [pv_all (by have := HM.out; have := HN.out; omega), pv_all (by have := HM.out; have := HN.out; omega), Nat.mul_zero, Nat.add_zero] at hI
      have HPD := Lib.hid (HO.out.pd HI.out.1)
      have HR := Lib.hid hI
      clear hI hgo hp0 hq0
      go_wp2_with fail
      go_ret
      exact ⟨vo, vc, L, rfl, HPD.out, HR.out, by omega, HO.out.newO, HB.out⟩
end Go.Proofs.YtdgbplppabalgaaGreatDoor

namespace Go.Proofs.YtdgbplppabalgaaGreatDoor
open Go.RowKit

set_option maxHeartbeats 3200000 in
set_option maxRecDepth 100000 in
theorem minusY_any (a : Option Addr) (ca : Nat) (p : List Nat) (b : Option Addr) (cb : Nat) (q : List Nat) (x y : Nat) (w : World) (ha : Pd w a ca p) (hb : Pd w b cb q) (hp : Pcs p x) (hq : Pcs q y) (hle : y ≤ x) (hpl : p.length ≤ 100000) :
    Calls Tryz.prog 120 #[.slice a p.length ca, .slice b q.length cb] w fun e w' => ∃ (o : Option Addr) (c : Nat) (r : List Nat), e = .returned (.slice o r.length c) ∧ Pd w' o c r ∧ pv r = x - y ∧ r.length = p.length ∧ NewO w.heap.size o ∧ Below w.heap.size w w' := by
  obtain ⟨i0, hi, hz0, hz1, hz2⟩ := info_parts infoZ
  have h1 := ha.lc
  have h2 := ha.lim
  have h3 := hb.lc
  have h4 := hb.lim
  have hql := hp.len_mono hq hle
  have HPA := Lib.hid (fun (wx : World) (hw : Below w.heap.size w wx) i hi => (ha.below hw).at i hi)
  have HQB := Lib.hid (fun (wx : World) (hw : Below w.heap.size w wx) i hi => (hb.below hw).at i hi)
  have HV : Hid (pv p = x ∧ pv q = y ∧ lt9 p ∧ lt9 q) := ⟨hp.val, hq.val, hp.lt, hq.lt⟩
  have HLE := Lib.hid hle
  clear ha hb hp hq hle
  obtain ⟨m, hm⟩ : ∃ m, m = p.length := ⟨_, rfl⟩
  obtain ⟨n, hn⟩ : ∃ m, m = q.length := ⟨_, rfl⟩
  have HM := Lib.hid hm
  have HN := Lib.hid hn
  rw [← hm] at h1 hpl hql HPA ⊢
  rw [← hn] at h3 hql HQB ⊢
  clear hm hn
  go_enter Tryz.func120, Tryz.ntmps120
  go_wp2_with fail
  go_loopw [5, 6, 7, 8] (fun ov bv iv _ wr => ∃ (k o : Nat) (vo : Option Addr) (vc : Nat) (L : List Nat), ov = .slice vo L.length vc ∧ bv = .int .i64 (o : Int) ∧ iv = .int .i64 (k : Int) ∧ k ≤ m ∧ o ≤ 1 ∧ L.length = k ∧ Hid (lt9 L ∧ pv L + pv (q.take k) = pv (p.take k) + 1000000000 ^ k * o) ∧ Hid (Ow wr w.heap.size vo vc L) ∧ Hid (Below w.heap.size w wr)) (fun _ _ iv _ _ => m - (intOf iv).toNat)
  case atStart => exact ⟨0, 0, none, 0, [], rfl, rfl, rfl, Nat.zero_le _, Nat.zero_le _, rfl, ⟨by simp [lt9], by simp [pv]⟩, Ow.nil _ _, Below.refl _ _⟩
  case round =>
    obtain ⟨k, o, vo, vc, L, rfl, rfl, rfl, hk, ho, hL, HI, HO, HB⟩ := hrel
    subst hL
    have hbs := HB.out.size
    by_cases hlt : L.length < m
    · obtain ⟨g, rfl, hca⟩ := HPA.out wr HB.out L.length hlt
      have hu9 := getD_lt HV.out.2.2.1 L.length
      have hv9 := getD_lt HV.out.2.2.2 L.length
      have HPT := Lib.hid (pv_take_d p L.length)
      have HQT := Lib.hid (pv_take_d q L.length)
      have HQ0 := Lib.hid (fun (h : ¬ L.length < q.length) => getD_out h)
      obtain ⟨u, hu⟩ : ∃ u, u = p.getD L.length 0 := ⟨_, rfl⟩
      rw [← hu] at hca hu9 HPT
      by_cases hkn : L.length < n
      · obtain ⟨g2, rfl, hcb⟩ := HQB.out wr HB.out L.length hkn
        obtain ⟨v, hv⟩ : ∃ v, v = q.getD L.length 0 := ⟨_, rfl⟩
        rw [← hv] at hcb hv9 HQT
        clear hu hv HQ0
        by_cases hneg : u < o + v
        · obtain ⟨z, hz⟩ : ∃ z : Nat, z + (o + v) = u + 1000000000 * 1 := ⟨u + 1000000000 - (o + v), by omega⟩
          have hz9 : z < 1000000000 := by omega
          have hd : (u : Int) - o - v + 1000000000 = (z : Int) := by omega
          have hd0 : decide ((u : Int) - o - v < 0) = true := decide_eq_true (by omega)
          have HI2 := Lib.hid (show lt9 (L ++ [z]) ∧ pv (L ++ [z]) + pv (q.take (L.length + 1)) = pv (p.take (L.length + 1)) + 1000000000 ^ (L.length + 1) * 1 from ⟨lt9_snoc HI.out.1 hz9, by rw [pv_snoc, HPT.out, HQT.out]; exact minus_step HI.out.2 hz⟩)
          clear hz hneg HI HPT HQT
          go_wp2_with (at_builtin; refine wpList_append_own _ rfl _ _ 41 rfl w.heap.size 3 i0 (.int .i64 0) 1 8 Tryz.underlying41 hi hz0 hz1 hz2 rfl (by decide) _ _ _ rfl (World.ownsRow.alloc HO.out _) ⟨wr.heap.size, 0, none⟩ 1 1 [.int .i64 (z : Int)] rfl rfl ?c1 ?c2 ?c3 ?c4 ?c5 ?_)
          try (case c1 =>
            intro j u hj
            match j, hj with
            | 0, hj => simp at hj; subst hj; simp [Addr.add])
          try (case c2 => first | rfl | (intro u hu; simp at hu; subst hu; rfl))
          case c3 => unfold maxLen; omega
          case c4 => omega
          case c5 => first | omega | (simp; omega)
          intro v' w2 hown' hgrow _
          obtain ⟨g', cap', rfl, how⟩ := Ow.snoc (L := L) (x := z) hown' (by omega) (by first | rfl | (simp [cI]))
          have hbel2 : Below w.heap.size w w2 := (HB.out.alloc hbs _).grown hgrow (by simp; omega) (by intro q hq; exact (World.ownsRow.lt HO.out q hq).1)
          have HW2 := Lib.hid how
          have HB2 := Lib.hid hbel2
          have hln : ((L ++ [z]).length) = L.length + 1 := by simp
          have HLN := Lib.hid hln
          clear hown' hgrow how hbel2 hln
          go_wp2_with fail
          all_goals go_roundw
          case rel => exact ⟨L.length + 1, 1, some ⟨g', 0, none⟩, cap', L ++ [z], rfl, rfl, by go_num, by omega, by omega, HLN.out, HI2, HW2, HB2⟩
          case measure => simp [intOf] <;> omega
        · obtain ⟨z, hz⟩ : ∃ z : Nat, z + (o + v) = u + 1000000000 * 0 := ⟨u - (o + v), by omega⟩
          have hz9 : z < 1000000000 := by omega
          have hd : (u : Int) - o - v = (z : Int) := by omega
          have hd0 : decide ((z : Int) < 0) = false := decide_eq_false (by omega)
          have HI2 := Lib.hid (show lt9 (L ++ [z]) ∧ pv (L ++ [z]) + pv (q.take (L.length + 1)) = pv (p.take (L.length + 1)) + 1000000000 ^ (L.length + 1) * 0 from ⟨lt9_snoc HI.out.1 hz9, by rw [pv_snoc, HPT.out, HQT.out]; exact minus_step HI.out.2 hz⟩)
          clear hz hneg HI HPT HQT
          go_wp2_with (at_builtin; refine wpList_append_own _ rfl _ _ 41 rfl w.heap.size 3 i0 (.int .i64 0) 1 8 Tryz.underlying41 hi hz0 hz1 hz2 rfl (by decide) _ _ _ rfl (World.ownsRow.alloc HO.out _) ⟨wr.heap.size, 0, none⟩ 1 1 [.int .i64 (z : Int)] rfl rfl ?c1 ?c2 ?c3 ?c4 ?c5 ?_)
          try (case c1 =>
            intro j u hj
            match j, hj with
            | 0, hj => simp at hj; subst hj; simp [Addr.add])
          try (case c2 => first | rfl | (intro u hu; simp at hu; subst hu; rfl))
          case c3 => unfold maxLen; omega
          case c4 => omega
          case c5 => first | omega | (simp; omega)
          intro v' w2 hown' hgrow _
          obtain ⟨g', cap', rfl, how⟩ := Ow.snoc (L := L) (x := z) hown' (by omega) (by first | rfl | (simp [cI]))
          have hbel2 : Below w.heap.size w w2 := (HB.out.alloc hbs _).grown hgrow (by simp; omega) (by intro q hq; exact (World.ownsRow.lt HO.out q hq).1)
          have HW2 := Lib.hid how
          have HB2 := Lib.hid hbel2
          have hln : ((L ++ [z]).length) = L.length + 1 := by simp
          have HLN := Lib.hid hln
          clear hown' hgrow how hbel2 hln
          go_wp2_with fail
          all_goals go_roundw
          case rel => exact ⟨L.length + 1, 0, some ⟨g', 0, none⟩, cap', L ++ [z], rfl, rfl, by go_num, by omega, by omega, HLN.out, HI2, HW2, HB2⟩
          case measure => simp [intOf] <;> omega
      · have hq0 := HQ0.out (by have := HN.out; omega)
        clear hu HQ0
        rw [hq0] at HQT
        clear hq0 hv9
        by_cases hneg : u < o
        · obtain ⟨z, hz⟩ : ∃ z : Nat, z + (o + 0) = u + 1000000000 * 1 := ⟨u + 1000000000 - o, by omega⟩
          have hz9 : z < 1000000000 := by omega
          have hd : (u : Int) - o + 1000000000 = (z : Int) := by omega
          have hd0 : decide ((u : Int) - o < 0) = true := decide_eq_true (by omega)
          have HI2 := Lib.hid (show lt9 (L ++ [z]) ∧ pv (L ++ [z]) + pv (q.take (L.length + 1)) = pv (p.take (L.length + 1)) + 1000000000 ^ (L.length + 1) * 1 from ⟨lt9_snoc HI.out.1 hz9, by rw [pv_snoc, HPT.out, HQT.out]; exact minus_step HI.out.2 hz⟩)
          clear hz hneg HI HPT HQT
          go_wp2_with (at_builtin; refine wpList_append_own _ rfl _ _ 41 rfl w.heap.size 3 i0 (.int .i64 0) 1 8 Tryz.underlying41 hi hz0 hz1 hz2 rfl (by decide) _ _ _ rfl (World.ownsRow.alloc HO.out _) ⟨wr.heap.size, 0, none⟩ 1 1 [.int .i64 (z : Int)] rfl rfl ?c1 ?c2 ?c3 ?c4 ?c5 ?_)
          try (case c1 =>
            intro j u hj
            match j, hj with
            | 0, hj => simp at hj; subst hj; simp [Addr.add])
          try (case c2 => first | rfl | (intro u hu; simp at hu; subst hu; rfl))
          case c3 => unfold maxLen; omega
          case c4 => omega
          case c5 => first | omega | (simp; omega)
          intro v' w2 hown' hgrow _
          obtain ⟨g', cap', rfl, how⟩ := Ow.snoc (L := L) (x := z) hown' (by omega) (by first | rfl | (simp [cI]))
          have hbel2 : Below w.heap.size w w2 := (HB.out.alloc hbs _).grown hgrow (by simp; omega) (by intro q hq; exact (World.ownsRow.lt HO.out q hq).1)
          have HW2 := Lib.hid how
          have HB2 := Lib.hid hbel2
          have hln : ((L ++ [z]).length) = L.length + 1 := by simp
          have HLN := Lib.hid hln
          clear hown' hgrow how hbel2 hln
          go_wp2_with fail
          all_goals go_roundw
          case rel => exact ⟨L.length + 1, 1, some ⟨g', 0, none⟩, cap', L ++ [z], rfl, rfl, by go_num, by omega, by omega, HLN.out, HI2, HW2, HB2⟩
          case measure => simp [intOf] <;> omega
        · obtain ⟨z, hz⟩ : ∃ z : Nat, z + (o + 0) = u + 1000000000 * 0 := ⟨u - o, by omega⟩
          have hz9 : z < 1000000000 := by omega
          have hd : (u : Int) - o = (z : Int) := by omega
          have hd0 : decide ((z : Int) < 0) = false := decide_eq_false (by omega)
          have HI2 := Lib.hid (show lt9 (L ++ [z]) ∧ pv (L ++ [z]) + pv (q.take (L.length + 1)) = pv (p.take (L.length + 1)) + 1000000000 ^ (L.length + 1) * 0 from ⟨lt9_snoc HI.out.1 hz9, by rw [pv_snoc, HPT.out, HQT.out]; exact minus_step HI.out.2 hz⟩)
          clear hz hneg HI HPT HQT
          go_wp2_with (at_builtin; refine wpList_append_own _ rfl _ _ 41 rfl w.heap.size 3 i0 (.int .i64 0) 1 8 Tryz.underlying41 hi hz0 hz1 hz2 rfl (by decide) _ _ _ rfl (World.ownsRow.alloc HO.out _) ⟨wr.heap.size, 0, none⟩ 1 1 [.int .i64 (z : Int)] rfl rfl ?c1 ?c2 ?c3 ?c4 ?c5 ?_)
          try (case c1 =>
            intro j u hj
            match j, hj with
            | 0, hj => simp at hj; subst hj; simp [Addr.add])
          try (case c2 => first | rfl | (intro u hu; simp at hu; subst hu; rfl))
          case c3 => unfold maxLen; omega
          case c4 => omega
          case c5 => first | omega | (simp; omega)
          intro v' w2 hown' hgrow _
          obtain ⟨g', cap', rfl, how⟩ := Ow.snoc (L := L) (x := z) hown' (by omega) (by first | rfl | (simp [cI]))
          have hbel2 : Below w.heap.size w w2 := (HB.out.alloc hbs _).grown hgrow (by simp; omega) (by intro q hq; exact (World.ownsRow.lt HO.out q hq).1)
          have HW2 := Lib.hid how
          have HB2 := Lib.hid hbel2
          have hln : ((L ++ [z]).length) = L.length + 1 := by simp
          have HLN := Lib.hid hln
          clear hown' hgrow how hbel2 hln
          go_wp2_with fail
          all_goals go_roundw
          case rel => exact ⟨L.length + 1, 0, some ⟨g', 0, none⟩, cap', L ++ [z], rfl, rfl, by go_num, by omega, by omega, HLN.out, HI2, HW2, HB2⟩
          case measure => simp [intOf] <;> omega
    · have hI := HI.out.2
      rw [pv_all (by have := HM.out; have := HN.out; omega), pv_all (by have := HM.out; have := HN.out; omega), HV.out.1, HV.out.2.1] at hI
      have hlt9 := pv_lt L HI.out.1
      have ho0 : o = 0 := by
        rcases (by omega : o = 0 ∨ o = 1) with h | h
        · exact h
        · rw [h] at hI; have := HLE.out; omega
      rw [ho0] at hI
      have HPD := Lib.hid (HO.out.pd HI.out.1)
      have HPV := Lib.hid (show pv L = x - y by have := HLE.out; omega)
      have HLL := Lib.hid (show L.length = m by omega)
      clear hI hlt9 ho0
      go_wp2_with fail
      go_ret
      exact ⟨vo, vc, L, rfl, HPD.out, HPV.out, by rw [HLL.out], HO.out.newO, HB.out⟩
end Go.Proofs.YtdgbplppabalgaaGreatDoor
