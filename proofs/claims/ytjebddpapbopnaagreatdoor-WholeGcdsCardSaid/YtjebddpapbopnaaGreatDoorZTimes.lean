/-
  The reference of package whole: times, Mul.
-/
import Derived.Test.YtjebddpapbopnaaGreatDoorZRAdd
namespace Go.Proofs.YtjebddpapbopnaaGreatDoor
open Go.RowKit

theorem made_zero (n : Nat) : (madeCells (Value.int .i64 0).cells n).toList = List.replicate n (Value.int .i64 0) := by
  rw [show (Value.int .i64 0).cells = #[.int .i64 0] from rfl, toList_madeCells_one]
theorem Ow.made {w : World} {B g n : Nat} (h : w.ownsRow B 3 1 (.slice (some ⟨g, 0, none⟩) n n) n (madeCells (Value.int .i64 0).cells (n * 1)).toList) : Ow w B (some ⟨g, 0, none⟩) n (List.replicate n 0) := by
  unfold Ow
  rw [List.length_replicate]
  have e : (madeCells (Value.int .i64 0).cells (n * 1)).toList = cI (List.replicate n 0) := by
    rw [Nat.mul_one, show cI (List.replicate n 0) = List.replicate n (Value.int .i64 0) by simp [cI]]
    exact made_zero n
  rw [← e]; exact h
theorem Ow.cell {w : World} {B g cap : Nat} {l : List Nat} (h : Ow w B (some ⟨g, 0, none⟩) cap l) (i : Nat) (hi : i < l.length) : w.cell? ⟨g, i, none⟩ = some (.int .i64 ((l[i]'hi : Nat) : Int)) := by
  rw [World.ownsRow.cellAt h i (by omega), cI_at l i hi]
theorem Ow.free {w : World} {B g cap : Nat} {l : List Nat} (h : Ow w B (some ⟨g, 0, none⟩) cap l) (i : Nat) : w.frozen? ⟨g, i, none⟩ = false := World.ownsRow.frozenAt h i
theorem Ow.set {w : World} {B g cap : Nat} {l : List Nat} (h : Ow w B (some ⟨g, 0, none⟩) cap l) (k v : Nat) : Ow (w.setCell ⟨g, k, none⟩ (.int .i64 (v : Int))) B (some ⟨g, 0, none⟩) cap (l.set k v) := by
  have h1 := (World.ownsRow.stored h k (.int .i64 (v : Int))).1
  rw [cI_set] at h1
  unfold Ow; rw [List.length_set]; exact h1
theorem Ow.drewN {w : World} {B : Nat} {vo : Option Addr} {vc : Nat} {l : List Nat} (h : Ow w B vo vc l) (n : Nat) : Ow (w.drewN n) B vo vc l := h
theorem set_last {L : List Nat} {k c A : Nat} (hk : k < L.length) (h0 : L[k] = 0) (h : pv L + 1000000000 ^ k * c = A) : pv (L.set k c) = A := by
  have h1 := pv_set c hk
  rw [h0] at h1; omega
set_option maxHeartbeats 6400000 in
set_option maxRecDepth 100000 in
theorem timesZ_any (a : Option Addr) (ca : Nat) (p : List Nat) (b : Option Addr) (cb : Nat) (q : List Nat) (w : World) (ha : Pd w a ca p) (hb : Pd w b cb q) (hpl : p.length ≤ 100000) (hql : q.length ≤ 100000) :
    Calls Tryz.prog 74 #[.slice a p.length ca, .slice b q.length cb] w fun e w' => ∃ (o : Option Addr) (c : Nat) (r : List Nat), e = .returned (.slice o r.length c) ∧ Pd w' o c r ∧ Pcs r (pv p * pv q) ∧ Below w.heap.size w w' := by
  obtain ⟨i0, hi, hz0, hz1, hz2⟩ := info_parts infoZ
  have h1 := ha.lc
  have h2 := ha.lim
  have h3 := hb.lc
  have h4 := hb.lim
  have HPA := Lib.hid (fun (wx : World) (hw : Below w.heap.size w wx) i hi => (ha.below hw).at i hi)
  have HQB := Lib.hid (fun (wx : World) (hw : Below w.heap.size w wx) i hi => (hb.below hw).at i hi)
  have HV : Hid (lt9 p ∧ lt9 q) := ⟨ha.nine, hb.nine⟩
  clear ha hb
  obtain ⟨m, hm⟩ : ∃ m, m = p.length := ⟨_, rfl⟩
  obtain ⟨n, hn⟩ : ∃ m, m = q.length := ⟨_, rfl⟩
  have HM := Lib.hid hm
  have HN := Lib.hid hn
  rw [← hm] at h1 hpl HPA ⊢
  rw [← hn] at h3 hql HQB ⊢
  clear hm hn
  go_enter Tryz.func74, Tryz.ntmps74
  go_wp2_with (at_make; refine wpList_make_full _ rfl _ _ 68 rfl w.heap.size 3 i0 (.int .i64 0) 1 Tryz.underlying68 hi hz0 hz1 .i64 .i64 _ _ (m + n + 1) rfl rfl (by omega) (by omega) (by rw [hz2]; omega) (by unfold maxLen; omega) (Nat.le_refl _) ?_; intro w0 hown0 hgrow0)
  have hbel0 : Below w.heap.size w w0 := (Below.refl _ _).grown hgrow0 (Nat.le_refl _) (by intro k hk; cases hk)
  have HB0 := Lib.hid hbel0
  have HR0 := Lib.hid (Ow.made hown0)
  clear hown0 hgrow0 hbel0
  obtain ⟨N, hN⟩ : ∃ N, N = m + n + 1 := ⟨_, rfl⟩
  have hNi : ((m + n + 1 : Nat) : Int) = (N : Int) := by omega
  rw [← hN] at HR0 ⊢
  have HNN := Lib.hid hN
  have hNle : N ≤ 200001 := by omega
  clear hN hNi
  go_wp2_with fail
  go_loopw [6, 7, 8, 9] (fun iv _ _ _ wr => ∃ (i : Nat) (L : List Nat), iv = .int .i64 (i : Int) ∧ i ≤ m ∧ Hid (L.length = N ∧ lt9 L ∧ pv L = pv (p.take i) * pv q ∧ (∀ t (h : t < L.length), i + n ≤ t → L[t] = 0)) ∧ Hid (Ow wr w.heap.size (some ⟨w.heap.size, 0, none⟩) N L) ∧ Hid (Below w.heap.size w wr)) (fun iv _ _ _ _ => m - (intOf iv).toNat)
  case atStart => exact ⟨0, List.replicate N 0, rfl, Nat.zero_le _, ⟨by simp, lt9_replicate _, by rw [pv_replicate]; simp [pv], fun t ht _ => by simp⟩, HR0, HB0⟩
  case round =>
    obtain ⟨i, L, rfl, hi2, HI, HO, HB⟩ := hrel
    by_cases hlt : i < m
    · obtain ⟨g, rfl, hca⟩ := HPA.out w (Below.refl _ _) i hlt
      have HCX := Lib.hid (show ∀ wx, Below w.heap.size w wx → wx.cell? ⟨g, i, none⟩ = some (.int .i64 ((p.getD i 0 : Nat) : Int)) from fun wx hw => by
        obtain ⟨g2, e, h⟩ := HPA.out wx hw i hlt
        have : g = g2 := by injection e with e; injection e
        rw [this]; exact h)
      have hx9 := getD_lt HV.out.1 i
      have HTS := Lib.hid (pv_take_d p i)
      obtain ⟨x, hx⟩ : ∃ x, x = p.getD i 0 := ⟨_, rfl⟩
      rw [← hx] at HCX hx9 HTS
      clear hx hca
      go_wp2_with fail
      go_loopw [7, 8, 9] (fun cv jv _ wr => ∃ (j c : Nat) (L : List Nat), cv = .int .i64 (c : Int) ∧ jv = .int .i64 (j : Int) ∧ j ≤ n + 1 ∧ c < 1000000000 ∧ (n < j → c = 0) ∧ Hid (L.length = N ∧ lt9 L ∧ pv L + 1000000000 ^ (i + j) * c = pv (p.take i) * pv q + 1000000000 ^ i * (x * pv (q.take j)) ∧ (∀ t (h : t < L.length), i + n + 1 ≤ t → L[t] = 0) ∧ (j ≤ n → ∀ (h : i + n < L.length), L[i + n] = 0)) ∧ Hid (Ow wr w.heap.size (some ⟨w.heap.size, 0, none⟩) N L) ∧ Hid (Below w.heap.size w wr)) (fun _ jv _ _ => n + 1 - (intOf jv).toNat)
      case atStart =>
        exact ⟨0, 0, L, rfl, rfl, Nat.zero_le _, by decide, fun h => absurd h (by omega), ⟨HI.out.1, HI.out.2.1, by rw [HI.out.2.2.1]; simp [pv], fun t ht hk => HI.out.2.2.2 t ht (by omega), fun _ h => HI.out.2.2.2 _ h (Nat.le_refl _)⟩, HO, HB⟩
      case round =>
        obtain ⟨j, c, L', rfl, rfl, hj, hc, hcj, HJ, HO2, HB2⟩ := hrel
        have hLN := HJ.out.1
        by_cases hjn : j < n
        · obtain ⟨g2, rfl, hcb⟩ := HQB.out wr HB2.out j hjn
          have hcx := HCX.out wr HB2.out
          have hy9 := getD_lt HV.out.2 j
          have HTB := Lib.hid (pv_take_d q j)
          obtain ⟨y, hy⟩ : ∃ y, y = q.getD j 0 := ⟨_, rfl⟩
          rw [← hy] at hcb hy9 HTB
          have hkj : i + j < L'.length := by have := HNN.out; omega
          have hkN : ((i : Int) + j) < N := by have := HNN.out; omega
          have hcp := HO2.out.cell (i + j) hkj
          have hfp := HO2.out.free (i + j)
          have hl9 := lt9_at HJ.out.2.1 (i + j) hkj
          have hin := mul_inner (y := y) hkj HJ.out.2.2.1
          obtain ⟨l, hl⟩ : ∃ l : Nat, l = L'[i + j] := ⟨_, rfl⟩
          rw [← hl] at hcp hl9 hin
          have hmc := mul_carry hc hl9 hx9 hy9
          obtain ⟨z, hz⟩ : ∃ z : Nat, z = x * y := ⟨_, rfl⟩
          have hxy : (x : Int) * (y : Int) = (z : Int) := by rw [hz]; simp
          rw [← hz] at hin hmc
          obtain ⟨T, hT⟩ : ∃ T, T = c + (l + z) := ⟨_, rfl⟩
          rw [← hT] at hin hmc
          obtain ⟨u, hu⟩ : ∃ u, u = l + c := ⟨_, rfl⟩
          have hui : (l : Int) + (c : Int) = (u : Int) := by omega
          have hTi : (u : Int) + (z : Int) = (T : Int) := by omega
          obtain ⟨r, hr⟩ : ∃ r, r = T % 1000000000 := ⟨_, rfl⟩
          obtain ⟨d, hd⟩ : ∃ d, d = T / 1000000000 := ⟨_, rfl⟩
          have hri : (T : Int).tmod 1000000000 = (r : Int) := by rw [Int.tmod_eq_emod_of_nonneg (by omega)]; omega
          have hrm : (T : Int) % 1000000000 = (r : Int) := by omega
          have hdi : (T : Int).tdiv 1000000000 = (d : Int) := by rw [Int.tdiv_eq_ediv_of_nonneg (by omega)]; omega
          have hdm : (T : Int) / 1000000000 = (d : Int) := by omega
          have hr9 : r < 1000000000 := by omega
          have hd9 : d < 1000000000 := by omega
          rw [← hr, ← hd] at hin
          have wz := IntWalk.i64_in (z : Int) ⟨by omega, by omega⟩
          have wT := IntWalk.i64_in (T : Int) ⟨by omega, by omega⟩
          have wu := IntWalk.i64_in (u : Int) ⟨by omega, by omega⟩
          have hn1 : (j : Int) < n := by omega
          have HIN := Lib.hid hin
          have HJ2 := Lib.hid (show (L'.set (i + j) r).length = N ∧ lt9 (L'.set (i + j) r) ∧ pv (L'.set (i + j) r) + 1000000000 ^ (i + (j + 1)) * d = pv (p.take i) * pv q + 1000000000 ^ i * (x * pv (q.take (j + 1))) ∧ (∀ t (h : t < (L'.set (i + j) r).length), i + n + 1 ≤ t → (L'.set (i + j) r)[t] = 0) ∧ (j + 1 ≤ n → ∀ (h : i + n < (L'.set (i + j) r).length), (L'.set (i + j) r)[i + n] = 0) from by
            refine ⟨by rw [List.length_set]; exact hLN, lt9_set HJ.out.2.1 hr9, by rw [HTB.out]; exact HIN.out, fun t ht hk => ?_, fun _ h => ?_⟩
            · rw [List.getElem_set_ne (by omega)]; exact HJ.out.2.2.2.1 t (by rw [List.length_set] at ht; exact ht) hk
            · rw [List.getElem_set_ne (by omega)]; exact HJ.out.2.2.2.2 (by omega) (by rw [List.length_set] at h; exact h))
          have HW := Lib.hid (fun nq => (HO2.out.drewN nq).set (i + j) r)
          have HBW := Lib.hid (fun nq => (below_drewN HB2.out nq).setCell (p := ⟨w.heap.size, i + j, none⟩) (Nat.le_refl _) (.int .i64 (r : Int)))
          clear hy hl hz hT hu hr hd hin hmc hcj HJ HIN HTB HO2
          go_wp2_with fail
          go_quiet (fail)
          go_wp2_with fail
          all_goals go_roundw
          case rel => exact ⟨j + 1, d, L'.set (i + j) r, rfl, by go_num, by omega, hd9, fun h => absurd h (by omega), HJ2, HW.out _, HBW.out _⟩
          case measure => simp [intOf] <;> omega
        · by_cases hc0 : 0 < c
          · have hjn2 : j = n := by
              apply Classical.byContradiction; intro h; have := hcj (by omega); omega
            subst hjn2
            have hkj : i + j < L'.length := by have := HNN.out; omega
            have hkN : ((i : Int) + j) < N := by have := HNN.out; omega
            have hl0 := HJ.out.2.2.2.2 (Nat.le_refl _) hkj
            have hcp := HO2.out.cell (i + j) hkj
            rw [hl0] at hcp
            have hfp := HO2.out.free (i + j)
            have hst := set_last hkj hl0 HJ.out.2.2.1
            have hri : (c : Int).tmod 1000000000 = (c : Int) := by rw [Int.tmod_eq_emod_of_nonneg (by omega)]; omega
            have hrm : (c : Int) % 1000000000 = (c : Int) := by omega
            have hdi : (c : Int).tdiv 1000000000 = 0 := by rw [Int.tdiv_eq_ediv_of_nonneg (by omega)]; omega
            have hdm : (c : Int) / 1000000000 = 0 := by omega
            have wc := IntWalk.i64_in (c : Int) ⟨by omega, by omega⟩
            have hci : (0 : Int) < (c : Int) := by omega
            have HJ2 := Lib.hid (show (L'.set (i + j) c).length = N ∧ lt9 (L'.set (i + j) c) ∧ pv (L'.set (i + j) c) + 1000000000 ^ (i + (j + 1)) * 0 = pv (p.take i) * pv q + 1000000000 ^ i * (x * pv (q.take (j + 1))) ∧ (∀ t (h : t < (L'.set (i + j) c).length), i + j + 1 ≤ t → (L'.set (i + j) c)[t] = 0) ∧ (j + 1 ≤ j → ∀ (h : i + j < (L'.set (i + j) c).length), (L'.set (i + j) c)[i + j] = 0) from by
              refine ⟨by rw [List.length_set]; exact hLN, lt9_set HJ.out.2.1 hc, ?_, fun t ht hk => ?_, fun h => absurd h (by omega)⟩
              · rw [Nat.mul_zero, Nat.add_zero, hst, pv_all (l := q) (k := j) (by have := HN.out; omega), pv_all (l := q) (k := j + 1) (by have := HN.out; omega)]
              · rw [List.getElem_set_ne (by omega)]; exact HJ.out.2.2.2.1 t (by rw [List.length_set] at ht; exact ht) hk)
            have HW := Lib.hid (HO2.out.set (i + j) c)
            have HBW := Lib.hid (HB2.out.setCell (p := ⟨w.heap.size, i + j, none⟩) (Nat.le_refl _) (.int .i64 (c : Int)))
            clear hl0 hst hcj HJ HO2 hc0
            go_wp2_with fail
            all_goals go_roundw
            case rel => exact ⟨j + 1, 0, L'.set (i + j) c, rfl, by go_num, by omega, by decide, fun _ => rfl, HJ2, HW.out, HBW.out⟩
            case measure => simp [intOf] <;> omega
          · have hc00 : c = 0 := by omega
            subst hc00
            have HI2 := Lib.hid (show L'.length = N ∧ lt9 L' ∧ pv L' = pv (p.take (i + 1)) * pv q ∧ (∀ t (h : t < L'.length), i + 1 + n ≤ t → L'[t] = 0) from by
              refine ⟨hLN, HJ.out.2.1, ?_, fun t ht hk => HJ.out.2.2.2.1 t ht (by omega)⟩
              have h5 := HJ.out.2.2.1
              rw [Nat.mul_zero, Nat.add_zero, pv_all (k := j) (by have := HN.out; omega)] at h5
              rw [h5, HTS.out, Nat.add_mul, Nat.mul_assoc])
            clear hcj HJ
            go_wp2_with fail
            all_goals go_roundw
            case rel => exact ⟨i + 1, L', by go_num, by omega, HI2, HO2, HB2⟩
            case measure => simp [intOf] <;> omega
    · have hI := HI.out.2.2.1
      rw [pv_all (by have := HM.out; omega)] at hI
      have hpd := HO.out.pd HI.out.2.1
      have HPC := Lib.hid (show Pcs (trimP L) (pv p * pv q) by rw [← hI]; exact Pcs.of_trim HI.out.2.1)
      have hT := trimZ_any (some ⟨w.heap.size, 0, none⟩) N L wr hpd
      rw [HI.out.1] at hT
      have HT := Lib.hid hT
      have HPD := Lib.hid hpd.trim
      clear hI hpd hT
      go_wp2_with fail
      refine HT.out.mono ?_
      rintro e w' ⟨rfl, rfl⟩
      go_wp2_with fail
      go_ret
      exact ⟨_, _, trimP L, rfl, HPD.out, HPC.out, HB.out⟩
end Go.Proofs.YtjebddpapbopnaaGreatDoor
