/-
  The reference's join and Mul.
-/
import Derived.Test.YtfhmdlpjeiockaaDoorRefLimbs
import Derived.Test.YtfhmdlpjeiockaaDoorMul
import Derived.IntWalk
import Derived.Deep.QuietTactic
import Derived.BigQuiet
namespace Go.Proofs.YtfhmdlpjeiockaaDoor
open Go.RowKit

theorem Row.drewN {w : World} {B g cap : Nat} {l : List Nat} (h : Row w B g cap l) (n : Nat) : Row (w.drewN n) B g cap l := h
theorem j0_set (m : Nat) (S : List UInt8) (c : UInt8) : (48 :: dig0 (m + 1) S).set (m + 1) c = 48 :: dig0 m (c :: S) := by
  rw [List.set_cons_succ, dig0_set]

theorem joinR_c0 {w : World} {B g N : Nat} (h : RowB w B g N N (dig0 N [])) (hN : 0 < N) : ∃ c0 : Int, w.cell? ⟨g, 0, none⟩ = some (.int .u8 c0) :=
  ⟨_, h.cell 0 (by rw [dig0_len]; simpa using hN)⟩
set_option maxHeartbeats 3200000 in
set_option maxRecDepth 100000 in
theorem joinR_any (B g cap : Nat) (p : List Nat) (w : World) (h : Row w B g cap p) (h9 : lt9 p) (hn : p.length ≤ 200000) :
    Calls Tryd.prog 31 #[.slice (some ⟨g, 0, none⟩) p.length cap] w fun e w' => e = .returned (.string (str (pv p))) ∧ Below w.heap.size w w' := by
  have hlc := h.len_cap
  unfold maxLen at hlc
  obtain ⟨i0, hi, hz0, hz1, hz2⟩ := info_parts info8
  have HH := Lib.hid h
  have H9 := Lib.hid h9
  obtain ⟨N, hN⟩ : ∃ N : Nat, 9 * (p.length : Int) + 1 = (N : Int) := ⟨9 * p.length + 1, by omega⟩
  have hNb : N ≤ 1800001 := by omega
  have hNe : N = 9 * p.length + 1 := by omega
  have HN := Lib.hid hNe
  have hN0 : 0 < N := by omega
  clear h h9 hNe
  go_enter Tryd.func31, Tryd.ntmps31
  go_wp2_with (at_make; refine wpList_make_full _ rfl _ _ 22 rfl w.heap.size 5 i0 (.int .u8 0) 1 Tryd.underlying22 hi hz0 hz1 .i64 .i64 _ _ N rfl rfl rfl rfl (by rw [hz2]; omega) (by unfold maxLen; omega) (Nat.le_refl _) ?_; intro w0 hown0 hgrow0; have hrow0 := RowB.made hown0; obtain ⟨c00, hc00⟩ := joinR_c0 hrow0 hN0; have hf00 := hrow0.free 0; clear hown0)
  have hbel0 : Below w.heap.size w w0 := (Below.refl _ _).grown hgrow0 (Nat.le_refl _) (by intro k hk; cases hk)
  have hset0 := hrow0.set 0 48
  have e0 : (dig0 N []).set 0 48 = 48 :: dig0 (9 * p.length) [] := by
    rw [HN.out]; simp [dig0, List.replicate_succ]
  rw [e0] at hset0
  have HS0 := Lib.hid hset0
  have HB0 := Lib.hid (hbel0.setCell (p := ⟨w.heap.size, 0, none⟩) (Nat.le_refl _) (.int .u8 48))
  clear hgrow0 hset0 e0 hrow0 hbel0
  go_wp2_with fail
  go_loopw [4, 5, 6] (fun kv _ _ wr => ∃ k : Nat, kv = .int .i64 k ∧ k ≤ p.length ∧ RowB wr w.heap.size w.heap.size N N (48 :: dig0 (9 * (p.length - k)) (joinL (p.take k))) ∧ Below w.heap.size w wr) (fun kv _ _ _ => p.length - (intOf kv).toNat)
  case atStart => exact ⟨0, rfl, Nat.zero_le _, HS0.out, HB0.out⟩
  case round =>
    obtain ⟨k, rfl, hk, hrow, hbel⟩ := hrel
    by_cases hlt : k < p.length
    · have hcell := (HH.out.below hbel).cell k hlt
      have hx9 := lt9_at H9.out k hlt
      obtain ⟨x, hx⟩ : ∃ x : Nat, x = p[k] := ⟨_, rfl⟩
      rw [← hx] at hcell hx9
      have HX := Lib.hid hx
      have HJ := Lib.hid (joinL_take p k hlt)
      clear hx
      have HR := Lib.hid hrow
      have HB := Lib.hid hbel
      clear hrow hbel
      obtain ⟨wo, rfl⟩ : ∃ wo : World, wo = wr := ⟨_, rfl⟩
      go_wp2_with fail
      go_loopw [5, 6] (fun xv jv wr => ∃ j y : Nat, jv = .int .i64 j ∧ j ≤ 9 ∧ xv = .int .u64 y ∧ y < 1000000000 ∧ Hid (y = x / 10 ^ j) ∧ RowB wr w.heap.size w.heap.size N N (48 :: dig0 (9 * (p.length - k) - j) (ld x j ++ joinL (p.take k))) ∧ Below w.heap.size w wr) (fun _ jv _ => 9 - (intOf jv).toNat)
      case atStart => exact ⟨0, x, rfl, by omega, rfl, hx9, by show _ = _; simp, HR.out, HB.out⟩
      case round =>
        obtain ⟨j, y, rfl, hj, rfl, hy, HI, hrow, hbel⟩ := hrel
        by_cases hj9 : j < 9
        · have hNn := HN.out
          obtain ⟨m, hm⟩ : ∃ m, 9 * (p.length - k) - j = m + 1 := ⟨9 * (p.length - k) - j - 1, by omega⟩
          have hidx : N - 1 - 9 * k - j = m + 1 := by omega
          rw [hm] at hrow
          have hrl : m + 1 < (48 :: dig0 (m + 1) (ld x j ++ joinL (p.take k))).length := by rw [hrow.1]; omega
          obtain ⟨c0, hc0⟩ : ∃ c0 : Int, wr.cell? ⟨w.heap.size, N - 1 - 9 * k - j, none⟩ = some (.int .u8 c0) := by rw [hidx]; exact ⟨_, hrow.cell (m + 1) hrl⟩
          have hf0 := hrow.free (N - 1 - 9 * k - j)
          have hset := hrow.set (m + 1) (Lib.dg x j)
          rw [j0_set, ← hidx] at hset
          have ed : ((Lib.dg x j).toNat : Int) = 48 + (y : Int) % 10 := by rw [dg_nat, ← HI.out]; omega
          rw [ed] at hset
          have hmm : 9 * (p.length - k) - (j + 1) = m := by omega
          have HSET := Lib.hid hset
          have HMM := Lib.hid hmm
          have HB2 := Lib.hid hbel
          have hkN : 9 * k + j + 1 ≤ N := by omega
          clear hset hbel hrow ed hmm hm hidx hrl hNn
          go_wp2_with fail
          all_goals go_roundw
          case rel =>
            refine ⟨j + 1, y / 10, by go_num, by omega, by go_num, by omega, ?_, ?_, HB2.out.setCell (Nat.le_refl _) _⟩
            · show _ = _; rw [HI.out, Nat.pow_succ, Nat.div_div_eq_div_mul]
            · rw [HMM.out]; exact HSET.out
          case measure => simp [intOf] <;> omega
        · obtain rfl : j = 9 := by omega
          have HR2 := Lib.hid hrow
          have HB2 := Lib.hid hbel
          clear hrow hbel
          go_wp2_with fail
          all_goals go_roundw
          case rel =>
            have e2 := HR2.out
            rw [HX.out, ← HJ.out, show 9 * (p.length - k) - 9 = 9 * (p.length - (k + 1)) by omega] at e2
            exact ⟨k + 1, by go_num, by omega, e2, HB2.out⟩
          case measure => simp [intOf] <;> omega
    · obtain rfl : k = p.length := by omega
      have hrow2 : RowB wr w.heap.size w.heap.size N N (48 :: joinL p) := by
        have := hrow; rw [Nat.sub_self, List.take_length] at this; simpa [dig0] using this
      have hall : (48 :: joinL p).all isD = true := by rw [List.all_cons, joinL_all]; rfl
      have ht := trimR_any _ _ _ N (48 :: joinL p) wr hrow2 hall hN0
      have hval : val (48 :: joinL p) = pv p := by rw [val_cons, joinL_val p H9.out]; simp
      rw [hval] at ht
      have HT := Lib.hid ht
      have HB2 := Lib.hid hbel
      clear ht hval hall hrow hrow2 hbel
      go_wp2_with fail
      refine HT.out.mono ?_
      rintro e w1 ⟨rfl, rfl⟩
      go_wp2_with fail
      go_ret
      exact ⟨rfl, HB2.out⟩

set_option maxHeartbeats 6400000 in
set_option maxRecDepth 100000 in
theorem mulR_any (x0 y0 : Nat) (w : World) (hx : (str x0).size ≤ 450000) (hy : (str y0).size ≤ 450000) :
    Calls Tryd.prog 12 #[.string (str x0), .string (str y0)] w fun e w' => e = .returned (.string (str (x0 * y0))) ∧ Below w.heap.size w w' := by
  obtain ⟨s, hsx⟩ : ∃ s, s = x0 * y0 := ⟨_, rfl⟩
  have HSX := Lib.hid hsx
  rw [← hsx]
  by_cases hq : (str x0).size ≤ 18 ∧ (str y0).size ≤ 18 ∧ (str x0).size + (str y0).size ≤ 18
  · have HA := Lib.hid (fun wx => quick_yes x0 wx hq.1)
    have HB := Lib.hid (fun wx => quick_yes y0 wx hq.2.1)
    have h1 := lt_of_size (size_mul (Nat.le_refl (str x0).size) (Nat.le_refl (str y0).size) (by rw [str_size]; have := Lib.nDigits_pos x0; omega))
    rw [← hsx] at h1
    have h2 : 10 ^ ((str x0).size + (str y0).size) ≤ 10 ^ 18 := Nat.pow_le_pow_right (by decide) hq.2.2
    have HO := Lib.hid (fun wx => ofR_any s wx (by omega))
    have hsi : (x0 : Int) * (y0 : Int) = (s : Int) := by rw [hsx]; simp
    have hwr : IntKind.u64.wrap (s : Int) = (s : Int) := by rw [IntKind.wrap_u64]; omega
    have hle : ((str x0).size : Int) + ((str y0).size : Int) ≤ 18 := by omega
    clear hq h1 h2 hsx
    go_enter Tryd.func12, Tryd.ntmps12
    go_wp2_with fail
    refine (HA.out _).mono ?_
    rintro e w1 ⟨rfl, rfl⟩
    go_wp2_with fail
    refine (HB.out _).mono ?_
    rintro e w1 ⟨rfl, rfl⟩
    go_wp2_with fail
    refine (HO.out _).mono ?_
    rintro e w1 ⟨rfl, h1⟩
    go_wp2_with fail
    go_ret
    exact ⟨rfl, h1⟩
  · obtain ⟨i0, hi, hz0, hz1, hz2⟩ := info_parts info64
    obtain ⟨q1, bx, HA, HA2⟩ : ∃ (q1 : Nat) (bx : Bool), Hid (∀ wx, Calls Tryd.prog 26 #[.string (str x0)] wx fun e w' => e = .returned (.tuple #[.int .u64 q1, .bool bx]) ∧ wx = w') ∧ (bx = true → (str x0).size ≤ 18) := by
      by_cases h : (str x0).size ≤ 18
      · exact ⟨x0, true, fun wx => quick_yes x0 wx h, fun _ => h⟩
      · exact ⟨0, false, fun wx => quick_no x0 wx (by omega), fun h => by cases h⟩
    obtain ⟨q2, by', HB, HB2⟩ : ∃ (q2 : Nat) (bx : Bool), Hid (∀ wx, Calls Tryd.prog 26 #[.string (str y0)] wx fun e w' => e = .returned (.tuple #[.int .u64 q2, .bool bx]) ∧ wx = w') ∧ (bx = true → (str y0).size ≤ 18) := by
      by_cases h : (str y0).size ≤ 18
      · exact ⟨y0, true, fun wx => quick_yes y0 wx h, fun _ => h⟩
      · exact ⟨0, false, fun wx => quick_no y0 wx (by omega), fun h => by cases h⟩
    have hbb : (bx = true ∧ by' = true ∧ ¬ ((str x0).size : Int) + ((str y0).size : Int) ≤ 18) ∨ bx = false ∨ (bx = true ∧ by' = false) := by
      cases bx with
      | false => exact .inr (.inl rfl)
      | true => cases by' with
                | false => exact .inr (.inr ⟨rfl, rfl⟩)
                | true => exact .inl ⟨rfl, rfl, fun h => hq ⟨HA2 rfl, HB2 rfl, by omega⟩⟩
    have HL1 := Lib.hid (fun wx => limbs_any x0 wx hx)
    have HL2 := Lib.hid (fun wx => limbs_any y0 wx hy)
    clear hq HA2 HB2 hsx
    go_enter Tryd.func12, Tryd.ntmps12
    go_wp2_with fail
    refine (HA.out _).mono ?_
    rintro e w1 ⟨rfl, rfl⟩
    go_wp2_with fail
    refine (HB.out _).mono ?_
    rintro e w1 ⟨rfl, rfl⟩
    rcases hbb with ⟨rfl, rfl, hsum⟩ | rfl | ⟨rfl, rfl⟩
    all_goals
      go_wp2_with fail
      refine (HL1.out _).mono ?_
      rintro e w1 ⟨g, cap, p, rfl, hp9, hpv, hpl, hrp, hb1⟩
      have HP := Lib.hid (show lt9 p ∧ pv p = x0 ∧ Row w1 w.heap.size g cap p from ⟨hp9, hpv, hrp⟩)
      have hlcp := hrp.len_cap
      unfold maxLen at hlcp
      have HB1 := Lib.hid hb1
      have hs1 := hb1.size
      clear hp9 hpv hrp hb1
      go_wp2_with fail
      refine (HL2.out _).mono ?_
      rintro e w2 ⟨g', cap', q, rfl, hq9, hqv, hql, hrq, hb2⟩
      have HQ := Lib.hid (show lt9 q ∧ pv q = y0 ∧ Row w2 w1.heap.size g' cap' q from ⟨hq9, hqv, hrq⟩)
      have hlcq := hrq.len_cap
      unfold maxLen at hlcq
      have HPR := Lib.hid (HP.out.2.2.below hb2)
      have HB2 := Lib.hid (HB1.out.trans (hb2.mono hs1))
      have hs2 := hb2.size
      clear hq9 hqv hrq hb2
      obtain ⟨N, hN⟩ : ∃ N : Nat, (p.length : Int) + (q.length : Int) + 1 = (N : Int) := ⟨p.length + q.length + 1, by omega⟩
      have hNb : N ≤ 100003 := by omega
      have HN := Lib.hid (show N = p.length + q.length + 1 by omega)
      go_wp2_with (at_make; refine wpList_make_full _ rfl _ _ 46 rfl w2.heap.size 37 i0 (.int .u64 0) 1 Tryd.underlying46 hi hz0 hz1 .i64 .i64 _ _ N rfl rfl rfl rfl (by rw [hz2]; omega) (by unfold maxLen; omega) (Nat.le_refl _) ?_; intro w3 hown0 hgrow0)
      have hbel0 : Below w2.heap.size w2 w3 := (Below.refl _ _).grown hgrow0 (Nat.le_refl _) (by intro k hk; cases hk)
      have hrow0 := Row.made hown0
      clear hown0 hgrow0
      go_wp2_with fail
      go_loopw [12, 13, 14, 15] (fun iv _ _ _ wr => ∃ (i : Nat) (L : List Nat), iv = .int .i64 i ∧ i ≤ p.length ∧ Hid (L.length = N ∧ lt9 L ∧ pv L = pv (p.take i) * pv q ∧ (∀ t (h : t < L.length), i + q.length ≤ t → L[t] = 0)) ∧ Row wr w2.heap.size w2.heap.size N L ∧ Below w2.heap.size w2 wr) (fun iv _ _ _ _ => p.length - (intOf iv).toNat)
      case atStart =>
        refine ⟨0, z0 N [], rfl, Nat.zero_le _, ⟨by rw [z0_len]; rfl, ?_, ?_, ?_⟩, hrow0, hbel0⟩
        · unfold z0; rw [List.append_nil]; exact lt9_replicate _
        · unfold z0; rw [List.append_nil, pv_replicate]; simp [pv]
        · intro t ht _; simp [z0]
      case round =>
        obtain ⟨i, L, rfl, hk, HI, hrow, hbel⟩ := hrel
        have hNl := HN.out
        by_cases hlt : i < p.length
        · have hcell := (HPR.out.below hbel).cell i hlt
          have hx9 := lt9_at HP.out.1 i hlt
          have hts := pv_take_succ hlt
          obtain ⟨x, hx⟩ : ∃ x : Nat, x = p[i] := ⟨_, rfl⟩
          rw [← hx] at hcell hx9 hts
          have HPC := Lib.hid (fun (wz : World) (hz : Below w2.heap.size w2 wz) => (show wz.cell? ⟨g, i, none⟩ = some (.int .u64 (x : Int)) by rw [hx]; exact (HPR.out.below hz).cell i hlt))
          have HTS := Lib.hid hts
          have HR := Lib.hid hrow
          have HBL := Lib.hid hbel
          clear hx hts hrow hbel hcell hNl
          obtain ⟨wo, rfl⟩ : ∃ wo : World, wo = wr := ⟨_, rfl⟩
          go_wp2_with fail
          go_loopw [13, 14, 15] (fun cv jv _ wr => ∃ (j c : Nat) (L : List Nat), jv = .int .i64 j ∧ j ≤ q.length ∧ cv = .int .u64 c ∧ c < 1000000000 ∧ Hid (L.length = N ∧ lt9 L ∧ pv L + 1000000000 ^ (i + j) * c = pv (p.take i) * pv q + 1000000000 ^ i * (x * pv (q.take j)) ∧ (∀ t (h : t < L.length), i + q.length ≤ t → L[t] = 0)) ∧ Row wr w2.heap.size w2.heap.size N L ∧ Below w2.heap.size w2 wr) (fun _ jv _ _ => q.length - (intOf jv).toNat)
          case atStart =>
            obtain ⟨h1, h2, h3, h4⟩ := HI
            exact ⟨0, 0, L, rfl, Nat.zero_le _, rfl, by omega, ⟨h1, h2, by rw [h3]; simp [pv], h4⟩, HR.out, HBL.out⟩
          case round =>
            obtain ⟨j, c, L', rfl, hj, rfl, hc, HJ, hrow, hbel⟩ := hrel
            have hL' := HJ.1
            have hNl := HN.out
            by_cases hjt : j < q.length
            · have hca := HPC.out wr hbel
              have hcb := (HQ.out.2.2.below hbel).cell j hjt
              have hy9 := lt9_at HQ.out.1 j hjt
              have htsb := pv_take_succ hjt
              obtain ⟨y, hy⟩ : ∃ y : Nat, y = q[j] := ⟨_, rfl⟩
              rw [← hy] at hcb hy9 htsb
              have hkj : i + j < L'.length := by omega
              have hcp := hrow.cell (i + j) hkj
              have hfp := hrow.free (i + j)
              have hl9 := lt9_at HJ.2.1 (i + j) hkj
              have hin := mul_inner (y := y) hkj HJ.2.2.1
              obtain ⟨l, hl⟩ : ∃ l : Nat, l = L'[i + j] := ⟨_, rfl⟩
              rw [← hl] at hcp hl9 hin
              have hmc := mul_carry hc hl9 hx9 hy9
              obtain ⟨z, hz⟩ : ∃ z : Nat, z = x * y := ⟨_, rfl⟩
              have hxy : (x : Int) * (y : Int) = (z : Int) := by rw [hz]; simp
              rw [← hz] at hin hmc
              have hm1 := hmc.1
              have hwz : IntKind.u64.wrap (z : Int) = (z : Int) := by rw [IntKind.wrap_u64]; omega
              have hw4 : IntKind.u64.wrap ((l : Int) + (z : Int)) = (l : Int) + (z : Int) := by rw [IntKind.wrap_u64]; omega
              have hw5 : IntKind.u64.wrap ((l : Int) + (z : Int) + (c : Int)) = (l : Int) + (z : Int) + (c : Int) := by rw [IntKind.wrap_u64]; omega
              have hw1 : IntKind.i64.wrap ((i : Int) + (j : Int)) = (i : Int) + (j : Int) := IntWalk.i64_in _ (by omega)
              have hw2 : 0 ≤ (i : Int) + (j : Int) := by omega
              have hw3 : ((i : Int) + (j : Int)).toNat = i + j := by omega
              have hw6 : (i : Int) + (j : Int) < (N : Int) := by omega
              have HC2 := Lib.hid hmc.2
              have HIN := Lib.hid hin
              have HTB := Lib.hid htsb
              have HR2 := Lib.hid hrow
              have HBL2 := Lib.hid hbel
              clear hy htsb hl hmc hz hin hrow hbel hkj hNl
              go_wp2_with fail
              go_quiet (fail)
              clear hwz hw4 hw5 hw1 hw2 hw3 hw6
              go_wp2_with fail
              all_goals go_roundw
              case rel =>
                have e := (HR2.out.drewN nq).set (i + j) ((c + (l + z)) % 1000000000)
                have e2 : (((c + (l + z)) % 1000000000 : Nat) : Int) = ((l : Int) + (z : Int) + (c : Int)) % 1000000000 := by omega
                rw [e2] at e
                refine ⟨j + 1, (c + (l + z)) / 1000000000, L'.set (i + j) ((c + (l + z)) % 1000000000), by go_num, by omega, ?_, HC2.out, ⟨by rw [List.length_set]; exact hL', lt9_set HJ.2.1 (Nat.mod_lt _ (by decide)), ?_, ?_⟩, e, (below_drewN HBL2.out nq).setCell (Nat.le_refl _) _⟩
                · have e3 : (((c + (l + z)) / 1000000000 : Nat) : Int) = ((l : Int) + (z : Int) + (c : Int)) / 1000000000 := by omega
                  rw [e3]
                · rw [HTB.out]; exact HIN.out
                · intro t ht hkt
                  rw [List.getElem_set_ne (by omega)]
                  exact HJ.2.2.2 t (by rw [List.length_set] at ht; exact ht) hkt
              case measure => simp [intOf] <;> omega
            · obtain rfl : j = q.length := by omega
              have hkj : i + q.length < L'.length := by omega
              have hl0 := HJ.2.2.2 (i + q.length) hkj (Nat.le_refl _)
              have hcp := hrow.cell (i + q.length) hkj
              rw [hl0] at hcp
              have hfp := hrow.free (i + q.length)
              have heq := HJ.2.2.1
              rw [List.take_length] at heq
              have hou := mul_outer hkj hl0 rfl heq
              rw [← HTS.out] at hou
              have hiN : i + q.length < N := by omega
              have HOU := Lib.hid hou
              have HR2 := Lib.hid hrow
              have HBL2 := Lib.hid hbel
              clear hl0 heq hou hrow hbel hkj hNl
              go_wp2_with fail
              all_goals go_roundw
              case rel =>
                refine ⟨i + 1, L'.set (i + q.length) c, by go_num, by omega, ⟨by rw [List.length_set]; exact hL', lt9_set HJ.2.1 hc, HOU.out, ?_⟩, HR2.out.set (i + q.length) c, HBL2.out.setCell (Nat.le_refl _) _⟩
                intro t ht hkt
                rw [List.getElem_set_ne (by omega)]
                exact HJ.2.2.2 t (by rw [List.length_set] at ht; exact ht) (by omega)
              case measure => simp [intOf] <;> omega
        · obtain rfl : i = p.length := by omega
          have hpv := HI.2.2.1
          rw [List.take_length, HP.out.2.1, HQ.out.2.1, ← HSX.out] at hpv
          have hj := joinR_any _ _ N L wr (by have := hrow; exact this) HI.2.1 (by rw [HI.1]; omega)
          rw [HI.1, hpv] at hj
          have HJO := Lib.hid hj
          have HBF := Lib.hid (HB2.out.trans (hbel.mono (Nat.le_trans hs1 hs2)))
          have hsz := hbel.size
          clear hpv hj hrow hbel hNl
          go_wp2_with fail
          refine HJO.out.mono ?_
          rintro e w9 ⟨rfl, h9⟩
          go_wp2_with fail
          go_ret
          exact ⟨rfl, HBF.out.trans (h9.mono (by omega))⟩
end Go.Proofs.YtfhmdlpjeiockaaDoor
