/-
  Texts of one seat, joined: Mul Num Pow Make.
-/
import Derived.Test.YtgkfdgdlmpggpaaGreatDoorJ3
import Derived.Laws.Bits64
import Derived.Lib.RabinKarpLaws
import Derived.OpenShut
namespace Go.Proofs.YtgkfdgdlmpggpaaGreatDoor
open Go.RowKit

theorem mul_inner {L : List Nat} {k j c x y P0 pb : Nat} (hk : k + j < L.length) (h : pv L + 1000000000 ^ (k + j) * c = P0 + 1000000000 ^ k * (x * pb)) :
    pv (L.set (k + j) ((c + (L[k + j] + x * y)) % 1000000000)) + 1000000000 ^ (k + j + 1) * ((c + (L[k + j] + x * y)) / 1000000000) = P0 + 1000000000 ^ k * (x * (pb + 1000000000 ^ j * y)) := by
  have h1 := pv_set ((c + (L[k + j] + x * y)) % 1000000000) hk
  have h2 : 1000000000 ^ (k + j + 1) * ((c + (L[k + j] + x * y)) / 1000000000) + 1000000000 ^ (k + j) * ((c + (L[k + j] + x * y)) % 1000000000) = 1000000000 ^ (k + j) * (c + (L[k + j] + x * y)) := by
    rw [Nat.pow_succ, Nat.mul_assoc, ← Nat.mul_add, Nat.div_add_mod]
  have h3 : 1000000000 ^ (k + j) * (c + (L[k + j] + x * y)) = 1000000000 ^ (k + j) * c + 1000000000 ^ (k + j) * L[k + j] + 1000000000 ^ (k + j) * (x * y) := by
    rw [Nat.mul_add, Nat.mul_add]; omega
  have h4 : 1000000000 ^ k * (x * (pb + 1000000000 ^ j * y)) = 1000000000 ^ k * (x * pb) + 1000000000 ^ (k + j) * (x * y) := by
    rw [Nat.mul_add, Nat.mul_add, Nat.pow_add]
    congr 1
    rw [Nat.mul_assoc, Nat.mul_left_comm x]
  rw [h4]; omega
theorem mul_outer {L : List Nat} {k lb c x P0 pb pa : Nat} (hk : k + lb < L.length) (h0 : L[k + lb] = 0) (hP : P0 = pa * pb) (h : pv L + 1000000000 ^ (k + lb) * c = P0 + 1000000000 ^ k * (x * pb)) :
    pv (L.set (k + lb) c) = (pa + 1000000000 ^ k * x) * pb := by
  have h1 := pv_set c hk
  rw [h0] at h1
  rw [Nat.add_mul, Nat.mul_assoc]; omega
theorem mul_carry {c l x y : Nat} (hc : c < 1000000000) (hl : l < 1000000000) (hx : x < 1000000000) (hy : y < 1000000000) : c + (l + x * y) < 1000000000000000000 ∧ (c + (l + x * y)) / 1000000000 < 1000000000 := by
  have h1 : x * y ≤ 999999999 * 999999999 := Nat.mul_le_mul (by omega) (by omega)
  omega

set_option maxHeartbeats 6400000 in
set_option maxRecDepth 100000 in
theorem multiply_any (B g cap g' cap' : Nat) (a b : List Nat) (w : World) (ha : Row w B g cap a) (hb : Row w B g' cap' b) (ha9 : lt9 a) (hb9 : lt9 b) (hla : a.length ≤ 200000) (hlb : b.length ≤ 200000) :
    Calls Tryz.prog 178 #[.slice (some ⟨g, 0, none⟩) a.length cap, .slice (some ⟨g', 0, none⟩) b.length cap'] w fun e w' => ∃ (h cap'' : Nat) (q : List Nat), e = .returned (.slice (some ⟨h, 0, none⟩) q.length cap'') ∧ Pcs q (pv a * pv b) ∧ Row w' w.heap.size h cap'' q ∧ Below w.heap.size w w' := by
  have hlc := ha.len_cap
  have hlc' := hb.len_cap
  unfold maxLen at hlc hlc'
  obtain ⟨i0, hi, hz0, hz1, hz2⟩ := info_parts info64
  have HA := Lib.hid ha
  have HB := Lib.hid hb
  have H9A := Lib.hid ha9
  have H9B := Lib.hid hb9
  clear ha hb ha9 hb9
  go_enter Tryz.func178, Tryz.ntmps178
  go_wp2_with (at_make; refine wpList_make_full _ rfl _ _ 161 rfl w.heap.size 135 i0 (.int .u64 0) 1 Tryz.underlying161 hi hz0 hz1 .i64 .i64 _ _ (a.length + b.length) rfl rfl (by omega) (by omega) (by rw [hz2]; omega) (by unfold maxLen; omega) (Nat.le_refl _) ?_; intro w0 hown0 hgrow0)
  have hbel0 : Below w.heap.size w w0 := (Below.refl _ _).grown hgrow0 (Nat.le_refl _) (by intro k hk; cases hk)
  have hrow0 := Row.made hown0
  clear hown0 hgrow0
  go_wp2_with fail
  go_loopw [6, 7, 8, 9, 10, 19, 26] (fun _ _ _ _ _ iv _ wr => ∃ (k : Nat) (L : List Nat), iv = .int .i64 k ∧ k ≤ a.length ∧ Hid (L.length = a.length + b.length ∧ lt9 L ∧ pv L = pv (a.take k) * pv b ∧ (∀ t (h : t < L.length), k + b.length ≤ t → L[t] = 0)) ∧ Row wr w.heap.size w.heap.size (a.length + b.length) L ∧ Below w.heap.size w wr) (fun _ _ _ _ _ iv _ _ => a.length - (intOf iv).toNat)
  case atStart =>
    refine ⟨0, z0 (a.length + b.length) [], rfl, Nat.zero_le _, ⟨by rw [z0_len]; rfl, ?_, ?_, ?_⟩, hrow0, hbel0⟩
    · unfold z0; rw [List.append_nil]; exact lt9_replicate _
    · unfold z0; rw [List.append_nil, pv_replicate]; simp [pv]
    · intro t ht _; simp [z0]
  case round =>
    obtain ⟨k, L, rfl, hk, HI, hrow, hbel⟩ := hrel
    by_cases hlt : k < a.length
    · have hcell := (HA.out.below hbel).cell k hlt
      have hx9 := lt9_at H9A.out k hlt
      have hts := pv_take_succ hlt
      obtain ⟨x, hx⟩ : ∃ x : Nat, x = a[k] := ⟨_, rfl⟩
      rw [← hx] at hcell hx9 hts
      have HTS := Lib.hid hts
      have HR := Lib.hid hrow
      have HBL := Lib.hid hbel
      clear hx hts hrow hbel
      obtain ⟨wo, rfl⟩ : ∃ wo : World, wo = wr := ⟨_, rfl⟩
      go_wp2_with fail
      go_loopw [8, 9, 10, 26] (fun cv _ _ jv wr => ∃ (j c : Nat) (L : List Nat), jv = .int .i64 j ∧ j ≤ b.length ∧ cv = .int .u64 c ∧ c < 1000000000 ∧ Hid (L.length = a.length + b.length ∧ lt9 L ∧ pv L + 1000000000 ^ (k + j) * c = pv (a.take k) * pv b + 1000000000 ^ k * (x * pv (b.take j)) ∧ (∀ t (h : t < L.length), k + b.length ≤ t → L[t] = 0)) ∧ Row wr w.heap.size w.heap.size (a.length + b.length) L ∧ Below w.heap.size w wr) (fun _ _ _ jv _ => b.length - (intOf jv).toNat)
      case atStart =>
        obtain ⟨h1, h2, h3, h4⟩ := HI
        exact ⟨0, 0, L, rfl, Nat.zero_le _, rfl, by omega, ⟨h1, h2, by rw [h3]; simp [pv], h4⟩, HR.out, HBL.out⟩
      case round =>
        obtain ⟨j, c, L', rfl, hj, rfl, hc, HJ, hrow, hbel⟩ := hrel
        have hL' := HJ.1
        by_cases hjt : j < b.length
        · have hcb := (HB.out.below hbel).cell j hjt
          have hy9 := lt9_at H9B.out j hjt
          have htsb := pv_take_succ hjt
          obtain ⟨y, hy⟩ : ∃ y : Nat, y = b[j] := ⟨_, rfl⟩
          rw [← hy] at hcb hy9 htsb
          have hkj : k + j < L'.length := by omega
          have hcp := hrow.cell (k + j) hkj
          have hfp := hrow.free (k + j)
          have hl9 := lt9_at HJ.2.1 (k + j) hkj
          have hin := mul_inner (y := y) hkj HJ.2.2.1
          obtain ⟨l, hl⟩ : ∃ l : Nat, l = L'[k + j] := ⟨_, rfl⟩
          rw [← hl] at hcp hl9 hin
          have hmc := mul_carry hc hl9 hx9 hy9
          obtain ⟨z, hz⟩ : ∃ z : Nat, z = x * y := ⟨_, rfl⟩
          have hxy : (x : Int) * (y : Int) = (z : Int) := by rw [hz]; simp
          rw [← hz] at hin hmc
          have hm1 := hmc.1
          have HC2 := Lib.hid hmc.2
          have HIN := Lib.hid hin
          have HTB := Lib.hid htsb
          have HR2 := Lib.hid hrow
          have HB2 := Lib.hid hbel
          clear hy htsb hl hmc hz hin hrow hbel hkj
          go_wp2_with fail
          all_goals go_roundw
          case rel =>
            have e := HR2.out.set (k + j) ((c + (l + z)) % 1000000000)
            have e2 : (((c + (l + z)) % 1000000000 : Nat) : Int) = ((c : Int) + ((l : Int) + (z : Int))) % 1000000000 := by omega
            rw [e2] at e
            refine ⟨j + 1, (c + (l + z)) / 1000000000, L'.set (k + j) ((c + (l + z)) % 1000000000), by go_num, by omega, by go_num, HC2.out, ⟨by rw [List.length_set]; exact hL', lt9_set HJ.2.1 (Nat.mod_lt _ (by decide)), ?_, ?_⟩, e, HB2.out.setCell (Nat.le_refl _) _⟩
            · rw [HTB.out]; exact HIN.out
            · intro t ht hkt
              rw [List.getElem_set_ne (by omega)]
              exact HJ.2.2.2 t (by rw [List.length_set] at ht; exact ht) hkt
          case measure => simp [intOf] <;> omega
        · obtain rfl : j = b.length := by omega
          have hkj : k + b.length < L'.length := by omega
          have hl0 := HJ.2.2.2 (k + b.length) hkj (Nat.le_refl _)
          have hcp := hrow.cell (k + b.length) hkj
          rw [hl0] at hcp
          have hfp := hrow.free (k + b.length)
          have heq := HJ.2.2.1
          rw [List.take_length] at heq
          have hou := mul_outer hkj hl0 rfl heq
          rw [← HTS.out] at hou
          have HOU := Lib.hid hou
          have HR2 := Lib.hid hrow
          have HB2 := Lib.hid hbel
          clear hl0 heq hou hrow hbel hkj
          go_wp2_with fail
          all_goals go_roundw
          case rel =>
            refine ⟨k + 1, L'.set (k + b.length) c, by go_num, by omega, ⟨by rw [List.length_set]; exact hL', lt9_set HJ.2.1 hc, HOU.out, ?_⟩, HR2.out.set (k + b.length) c, HB2.out.setCell (Nat.le_refl _) _⟩
            intro t ht hkt
            rw [List.getElem_set_ne (by omega)]
            exact HJ.2.2.2 t (by rw [List.length_set] at ht; exact ht) (by omega)
          case measure => simp [intOf] <;> omega
    · obtain rfl : k = a.length := by omega
      have hpv := HI.2.2.1
      rw [List.take_length] at hpv
      have ht := trim_any w.heap.size w.heap.size (a.length + b.length) L wr hrow
      rw [HI.1] at ht
      have HT := Lib.hid ht
      have HPV := Lib.hid hpv
      have HR2 := Lib.hid hrow
      have HB2 := Lib.hid hbel
      clear ht hpv hrow hbel
      go_wp2_with fail
      refine HT.out.mono ?_
      rintro e w1 ⟨rfl, rfl⟩
      go_wp2_with fail
      go_ret
      refine ⟨w.heap.size, a.length + b.length, trimP L, rfl, ?_, ?_, HB2.out⟩
      · rw [← HPV.out]; exact Pcs.of_trim HI.2.1
      · have := HR2.out.take (trimP L).length (trimP_props _).2.2.2.1
        rw [← (trimP_props L).2.2.2.2] at this; exact this
end Go.Proofs.YtgkfdgdlmpggpaaGreatDoor

namespace Go.Proofs.YtgkfdgdlmpggpaaGreatDoor
open Go.RowKit

theorem Pcs.len_of_lt {p : List Nat} {a n : Nat} (h : Pcs p a) (ha : a < 1000000000 ^ n) : p.length ≤ n := by
  by_cases hp : p = []
  · subst hp; simp
  · have h1 := h.len_lower hp
    have h2 : (1000000000 : Nat) ^ (p.length - 1) < 1000000000 ^ n := by omega
    have h3 := (Nat.pow_lt_pow_iff_right (a := 1000000000) (by decide)).1 h2
    omega
theorem lt_of_size {a n : Nat} (hs : (str a).size ≤ n) : a < 10 ^ n := by
  have h1 := Lib.lt_pow_nDigits a
  rw [str_size] at hs
  have h2 : 10 ^ Lib.nDigits a ≤ 10 ^ n := Nat.pow_le_pow_right (by decide) hs
  omega
theorem Pcs.len_le {p : List Nat} {a n : Nat} (h : Pcs p a) (hs : (str a).size ≤ 9 * n) : p.length ≤ n :=
  h.len_of_lt (by have := lt_of_size hs; rw [pow9] at this; exact this)
theorem Pcs.mul_len {p q r : List Nat} {a b c : Nat} (hp : Pcs p a) (hq : Pcs q b) (hr : Pcs r c) (hc : c = a * b) : r.length ≤ p.length + q.length := by
  refine hr.len_of_lt ?_
  have h1 := pv_lt p hp.lt
  have h2 := pv_lt q hq.lt
  rw [hp.val] at h1
  rw [hq.val] at h2
  rw [hc, Nat.pow_add]
  exact Nat.mul_lt_mul'' h1 h2

set_option maxHeartbeats 1600000 in
theorem mul_any (a b : Nat) (w : World) (hs : Std w) (ha : (str a).size ≤ 450000) (hb : (str b).size ≤ 450000) :
    Calls Tryz.prog 140 #[.string (str a), .string (str b)] w fun e w' => e = .returned (.string (str (a * b))) ∧ Below w.heap.size w w' := by
  have HCUT := Lib.hid (fun wx => cutBoth_any a b wx (by omega) (by omega))
  by_cases h64 : a < 18446744073709551616 ∧ b < 18446744073709551616
  · have hm := fun wx => Tryz.bits_Mul64 a b h64.1 h64.2 wx
    have hby := both_yes a b h64.1 h64.2 w
    by_cases hhi : a * b < 18446744073709551616
    · rw [Nat.div_eq_of_lt hhi, Nat.mod_eq_of_lt hhi] at hm
      obtain ⟨v, hv⟩ : ∃ v : Nat, v = a * b := ⟨_, rfl⟩
      rw [← hv] at hm hhi ⊢
      have hof := fun wx hx => of_any v hhi wx hx
      have HM := Lib.hid hm
      have HBY := Lib.hid hby
      have HOF := Lib.hid hof
      clear hm hby hof hhi hv h64
      go_enter Tryz.func140, Tryz.ntmps140
      go_wp2_with fail
      refine HBY.out.mono ?_
      rintro e w1 ⟨rfl, hb1⟩
      go_wp2_with fail
      refine (HM.out _).mono ?_
      rintro e w2 ⟨rfl, rfl⟩
      go_wp2_with fail
      refine (HOF.out _ (hs.below hb1)).mono ?_
      rintro e w3 ⟨rfl, hb3⟩
      go_wp2_with fail
      go_ret
      exact ⟨rfl, hb1.trans (hb3.mono hb1.size)⟩
    · have hdv : 0 < a * b / 18446744073709551616 := Nat.div_pos (by omega) (by decide)
      obtain ⟨h, hh⟩ : ∃ h : Nat, h = a * b / 18446744073709551616 := ⟨_, rfl⟩
      obtain ⟨l, hl⟩ : ∃ l : Nat, l = a * b % 18446744073709551616 := ⟨_, rfl⟩
      rw [← hh, ← hl] at hm
      rw [← hh] at hdv
      have hb0 : ((h : Int) == 0) = false := by rw [beq_eq_false_iff_ne]; omega
      have HM := Lib.hid hm
      have HBY := Lib.hid hby
      clear hm hby hhi hh hl h64
      go_enter Tryz.func140, Tryz.ntmps140
      go_wp2_with fail
      refine HBY.out.mono ?_
      rintro e w1 ⟨rfl, hb1⟩
      go_wp2_with fail
      refine (HM.out _).mono ?_
      rintro e w2 ⟨rfl, rfl⟩
      go_wp2_with fail
      refine (HCUT.out _).mono ?_
      rintro e w3 ⟨g, cap, p, g', cap', q, rfl, hp, hq, hrp, hrq, hgg, hb3⟩
      have hlp := hp.len_le (n := 50000) (by omega)
      have hlq := hq.len_le (n := 50000) (by omega)
      have HMU := Lib.hid (multiply_any _ g cap g' cap' p q w3 hrp hrq hp.lt hq.lt (by omega) (by omega))
      have HP := Lib.hid hp
      have HQ := Lib.hid hq
      clear hp hq hrp hrq hgg
      go_wp2_with fail
      refine HMU.out.mono ?_
      rintro e w4 ⟨g2, cap2, r, rfl, hr, hrr, hb4⟩
      rw [HP.out.val, HQ.out.val] at hr
      have hlr := HP.out.mul_len HQ.out hr rfl
      have HJ := Lib.hid (join_any _ g2 cap2 r (a * b) w4 hrr hr (by omega))
      clear hr hrr
      go_wp2_with fail
      refine HJ.out.mono ?_
      rintro e w5 ⟨rfl, hb5⟩
      go_wp2_with fail
      go_ret
      exact ⟨rfl, ((hb1.trans (hb3.mono hb1.size)).trans (hb4.mono (Nat.le_trans hb1.size hb3.size))).trans (hb5.mono (Nat.le_trans (Nat.le_trans hb1.size hb3.size) hb4.size))⟩
  · have hbn := both_no a b h64 w hs
    have HBN := Lib.hid hbn
    clear hbn h64
    go_enter Tryz.func140, Tryz.ntmps140
    go_wp2_with fail
    refine HBN.out.mono ?_
    rintro e w1 ⟨x, y, rfl, hb1⟩
    go_wp2_with fail
    refine (HCUT.out _).mono ?_
    rintro e w3 ⟨g, cap, p, g', cap', q, rfl, hp, hq, hrp, hrq, hgg, hb3⟩
    have hlp := hp.len_le (n := 50000) (by omega)
    have hlq := hq.len_le (n := 50000) (by omega)
    have HMU := Lib.hid (multiply_any _ g cap g' cap' p q w3 hrp hrq hp.lt hq.lt (by omega) (by omega))
    have HP := Lib.hid hp
    have HQ := Lib.hid hq
    clear hp hq hrp hrq hgg
    go_wp2_with fail
    refine HMU.out.mono ?_
    rintro e w4 ⟨g2, cap2, r, rfl, hr, hrr, hb4⟩
    rw [HP.out.val, HQ.out.val] at hr
    have hlr := HP.out.mul_len HQ.out hr rfl
    have HJ := Lib.hid (join_any _ g2 cap2 r (a * b) w4 hrr hr (by omega))
    clear hr hrr
    go_wp2_with fail
    refine HJ.out.mono ?_
    rintro e w5 ⟨rfl, hb5⟩
    go_wp2_with fail
    go_ret
    exact ⟨rfl, ((hb1.trans (hb3.mono hb1.size)).trans (hb4.mono (Nat.le_trans hb1.size hb3.size))).trans (hb5.mono (Nat.le_trans (Nat.le_trans hb1.size hb3.size) hb4.size))⟩

/-- a new row of two numbers -/
theorem Row.two (w : World) (x y : Nat) : Row (w.alloc (.cells #[.int .u64 (x : Int), .int .u64 (y : Int)] 135)) w.heap.size w.heap.size 2 [x, y] :=
  ⟨rfl, .inr ⟨w.heap.size, 2, _, rfl, Nat.le_refl _, heap_alloc_new w _, Nat.le_refl _, by unfold maxLen; decide, rfl, rfl⟩⟩

set_option maxHeartbeats 1600000 in
set_option maxRecDepth 100000 in
theorem divide_small (B g cap g' cap' : Nat) (a b : List Nat) (w : World) (ha : Row w B g cap a) (hb : Row w B g' cap' b) (ha9 : lt9 a) (hb9 : lt9 b) (hla : a.length ≤ 200000) (hlb : b.length ≤ 2) (hb0 : 0 < pv b) (hb1 : pv b ≤ 18446744072) :
    Calls Tryz.prog 181 #[.slice (some ⟨g, 0, none⟩) a.length cap, .slice (some ⟨g', 0, none⟩) b.length cap'] w fun e w' => ∃ (h c : Nat) (q : List Nat) (h' c' : Nat) (r : List Nat), e = .returned (.tuple #[.slice (some ⟨h, 0, none⟩) q.length c, .slice (some ⟨h', 0, none⟩) r.length c']) ∧ Pcs q (pv a / pv b) ∧ Pcs r (pv a % pv b) ∧ Row w' w.heap.size h c q ∧ Row w' w.heap.size h' c' r ∧ Below w.heap.size w w' := by
  have hlc := ha.len_cap
  have hlc' := hb.len_cap
  unfold maxLen at hlc hlc'
  have HS := Lib.hid (short_yes B g' cap' b w hb hlb hb9)
  have HD := Lib.hid (fun wx (hw : Below w.heap.size w wx) => divideShort_small B g cap a (pv b) wx (ha.below hw) ha9 hb0 hb1 hla)
  have hm : pv a % pv b < pv b := Nat.mod_lt _ hb0
  obtain ⟨n, hn⟩ : ∃ n : Nat, n = pv b := ⟨_, rfl⟩
  obtain ⟨m, hme⟩ : ∃ m : Nat, m = pv a % pv b := ⟨_, rfl⟩
  rw [← hme] at HD hm ⊢
  rw [← hn] at HD hm HS hb1 hb0 ⊢
  clear ha hb ha9 hb9 hn hme
  go_enter Tryz.func181, Tryz.ntmps181
  go_wp2_with fail
  refine HS.out.mono ?_
  rintro e w1 ⟨rfl, hb1'⟩
  go_wp2_with fail
  refine (HD.out _ hb1').mono ?_
  rintro e w2 ⟨h, c, q, rfl, hq, hr, hb2⟩
  have hrt := Row.two w2 (m % 1000000000) (m / 1000000000)
  have e1 : ((m % 1000000000 : Nat) : Int) = (m : Int) % 1000000000 := by omega
  have e2 : ((m / 1000000000 : Nat) : Int) = (m : Int) / 1000000000 := by omega
  rw [e1, e2] at hrt
  have htr := trim_any w2.heap.size w2.heap.size 2 [m % 1000000000, m / 1000000000] _ hrt
  have h9r : lt9 [m % 1000000000, m / 1000000000] := by
    intro z hz; simp at hz; omega
  have hpr : pv [m % 1000000000, m / 1000000000] = m := by simp [pv]; omega
  have HT := Lib.hid htr
  have HRT := Lib.hid hrt
  have HQ := Lib.hid hq
  have HR := Lib.hid hr
  have H9R := Lib.hid h9r
  have HPR := Lib.hid hpr
  clear hq hr htr hrt e1 e2 h9r hpr
  go_wp2_with fail
  refine HT.out.mono ?_
  rintro e w3 ⟨rfl, rfl⟩
  go_wp2_with fail
  go_ret2
  have hbz : Below w2.heap.size w2 (w2.alloc (.cells #[.int .u64 ((m : Int) % 1000000000), .int .u64 ((m : Int) / 1000000000)] 135)) := (Below.refl _ _).alloc (Nat.le_refl _) _
  refine ⟨h, c, q, w2.heap.size, 2, trimP [m % 1000000000, m / 1000000000], rfl, HQ.out, ?_, ((HR.out.mono hb1'.size).below hbz), ?_, (hb1'.trans (hb2.mono hb1'.size)).trans (hbz.mono (Nat.le_trans hb1'.size hb2.size))⟩
  · have := Pcs.of_trim H9R.out
    rw [HPR.out] at this; exact this
  · have := HRT.out.take (trimP [m % 1000000000, m / 1000000000]).length (trimP_props _).2.2.2.1
    rw [← (trimP_props [m % 1000000000, m / 1000000000]).2.2.2.2] at this
    exact this.mono (Nat.le_trans hb1'.size hb2.size)

theorem pcs_short {q : List Nat} {b : Nat} (hq : Pcs q b) (hb : b < 1000000000000000000) : q.length ≤ 2 := hq.short (by omega)
theorem Pcs.div_len {q : List Nat} {a b n : Nat} (h : Pcs q (a / b)) (hs : (str a).size ≤ 9 * n) : q.length ≤ n :=
  h.len_of_lt (Nat.lt_of_le_of_lt (Nat.div_le_self a b) (by have := lt_of_size hs; rw [pow9] at this; exact this))
theorem pcs_pos {q : List Nat} {b : Nat} (hq : Pcs q b) (hb : 0 < b) : 0 < q.length := by
  apply Nat.pos_of_ne_zero; intro e
  rw [List.eq_nil_of_length_eq_zero e] at hq; have := hq.val; simp [pv] at this; omega

set_option maxHeartbeats 1600000 in
theorem divmod_small (a b : Nat) (w : World) (hs : Std w) (ha : (str a).size ≤ 450000) (ha64 : ¬ a < 18446744073709551616) (hb0 : 0 < b) (hb1 : b ≤ 18446744072) :
    Calls Tryz.prog 147 #[.string (str a), .string (str b)] w fun e w' => e = .returned (.tuple #[.string (str (a / b)), .string (str (a % b)), .int .i64 0]) ∧ Below w.heap.size w w' := by
  have hbs : (str b).size ≤ 20 := nd20 (by omega)
  have HCUT := Lib.hid (fun wx => cutBoth_any a b wx (by omega) (by omega))
  have HBN := Lib.hid (both_no a b (fun h => ha64 h.1) w hs)
  obtain ⟨dq, dr, hdq⟩ : ∃ d r : Nat, d = a / b ∧ r = a % b := ⟨_, _, rfl, rfl⟩
  rw [← hdq.1, ← hdq.2]
  have HDQ := Lib.hid hdq
  clear ha64 hdq
  go_enter Tryz.func147, Tryz.ntmps147
  go_wp2_with fail
  refine HBN.out.mono ?_
  rintro e w1 ⟨x, y, rfl, hb1'⟩
  go_wp2_with fail
  refine (HCUT.out _).mono ?_
  rintro e w3 ⟨g, cap, p, g', cap', q, rfl, hp, hq, hrp, hrq, hgg, hb3⟩
  have hlp := hp.len_le (n := 50000) (by omega)
  have hlq := pcs_short hq (by omega)
  have hlq0 := pcs_pos hq hb0
  have hqn : ((q.length : Int) == 0) = false := by rw [beq_eq_false_iff_ne]; omega
  have HDV := Lib.hid (divide_small _ g cap g' cap' p q w3 hrp hrq hp.lt hq.lt (by omega) hlq (by rw [hq.val]; exact hb0) (by rw [hq.val]; exact hb1))
  rw [hp.val, hq.val] at HDV
  have hlen : ∀ q', Pcs q' dq → q'.length ≤ 200000 := fun q' hq' => by
    rw [HDQ.out.1] at hq'
    have h1 := hq'.div_len (n := 50000) (by omega)
    omega
  have hlen' : ∀ q', Pcs q' dr → q'.length ≤ 200000 := fun q' hq' => by
    have h1 := hq'.len_of_lt (n := 2) (by have := Nat.mod_lt a hb0; rw [HDQ.out.2]; omega)
    omega
  rw [← HDQ.out.1, ← HDQ.out.2] at HDV
  have HL := Lib.hid hlen
  have HL' := Lib.hid hlen'
  have hsz := hrp.len_cap
  have hsz' := hrq.len_cap
  unfold maxLen at hsz hsz'
  clear hp hq hrp hrq hgg hlen hlen'
  go_wp2_with fail
  refine HDV.out.mono ?_
  rintro e w4 ⟨h, c, q1, h', c', r1, rfl, hq1, hr1, hrq1, hrr1, hb4⟩
  have HJ1 := Lib.hid (join_any _ h c q1 dq w4 hrq1 hq1 (HL.out q1 hq1))
  have HJ2 := Lib.hid (fun wx (hw : Below w4.heap.size w4 wx) => join_any _ h' c' r1 dr wx (hrr1.below hw) hr1 (HL'.out r1 hr1))
  clear hq1 hr1 hrq1 hrr1
  clear HL HL' HDV HCUT HBN
  go_wp2_with fail
  refine HJ1.out.mono ?_
  rintro e w5 ⟨rfl, hb5⟩
  go_wp2_with fail
  refine (HJ2.out _ hb5).mono ?_
  rintro e w6 ⟨rfl, hb6⟩
  go_wp2_with fail
  go_ret3
  have s1 := hb1'.size
  have s3 := hb3.size
  have s4 := hb4.size
  have s5 := hb5.size
  exact ⟨rfl, (((hb1'.trans (hb3.mono s1)).trans (hb4.mono (by omega))).trans (hb5.mono (by omega))).trans (hb6.mono (by omega))⟩

end Go.Proofs.YtgkfdgdlmpggpaaGreatDoor

namespace Go.Proofs.YtgkfdgdlmpggpaaGreatDoor
open Go.RowKit

theorem nDigits_mono {a b : Nat} (h : a ≤ b) : Lib.nDigits a ≤ Lib.nDigits b := by
  refine nDigits_le (Lib.nDigits_pos b) ?_
  have := Lib.lt_pow_nDigits b; omega
theorem size_mono {a b : Nat} (h : a ≤ b) : (str a).size ≤ (str b).size := by rw [str_size, str_size]; exact nDigits_mono h
theorem size_pow {a m n : Nat} (hm : m ≤ n) (h : 20000 < (str (a ^ m)).size) : 20000 < (str (a ^ n)).size := by
  by_cases ha : a = 0
  · subst ha
    have : 0 ^ m < 10 ^ 1 := by cases m <;> simp
    have := str_big this (by decide); omega
  · exact Nat.lt_of_lt_of_le h (size_mono (Nat.pow_le_pow_right (by omega) hm))
theorem size_mul {a b n m : Nat} (ha : (str a).size ≤ n) (hb : (str b).size ≤ m) (h0 : 0 < n + m) : (str (a * b)).size ≤ n + m := by
  refine str_big ?_ h0
  rw [Nat.pow_add]
  exact Nat.mul_lt_mul'' (lt_of_size ha) (lt_of_size hb)
theorem pow_step {a n e v : Nat} (hv : v = a ^ (n / 2 ^ (e + 1))) : v * v * a ^ (n / 2 ^ e % 2) = a ^ (n / 2 ^ e) := by
  have h := Nat.div_add_mod (n / 2 ^ e) 2
  rw [Nat.div_div_eq_div_mul, ← Nat.pow_succ] at h
  conv => rhs; rw [← h]
  rw [Nat.pow_add, Nat.two_mul, Nat.pow_add, ← hv]
theorem bitLen_facts {n : Nat} (h0 : 0 < n) (h : n < 9223372036854775808) : 1 ≤ Lib.bitLen n ∧ Lib.bitLen n ≤ 63 ∧ n / 2 ^ (Lib.bitLen n - 1) = 1 := by
  have h1 := Lib.bitLenAux_bounds 64 n (by omega) (by omega)
  have e : Lib.bitLen n = Lib.bitLenAux 64 n := rfl
  rw [← e] at h1
  refine ⟨h1.1, Lib.bitLen_le n 63 (by decide) h, ?_⟩
  have h2 : 2 ^ Lib.bitLen n = 2 * 2 ^ (Lib.bitLen n - 1) := by
    conv => lhs; rw [show Lib.bitLen n = Lib.bitLen n - 1 + 1 by omega]
    rw [Nat.pow_succ]; omega
  have h3 : 0 < 2 ^ (Lib.bitLen n - 1) := Nat.pow_pos (by decide)
  apply Nat.le_antisymm
  · apply Nat.le_of_lt_succ
    rw [Nat.div_lt_iff_lt_mul h3]; omega
  · rw [Nat.le_div_iff_mul_le h3]; omega
theorem bit_is (n e : Nat) (hn : n < 9223372036854775808) : bits BinOp.and IntKind.i64 ((n : Int) / 2 ^ e) 1 = ((n / 2 ^ e % 2 : Nat) : Int) := by
  have e1 : ((n : Int) / 2 ^ e) = ((n / 2 ^ e : Nat) : Int) := by rw [Int.natCast_ediv]; simp
  have h2 := Nat.div_le_self n (2 ^ e)
  rw [e1]; exact Go.Proofs.and_one _ (by omega)
theorem bit_yes {n e : Nat} (hn : n < 9223372036854775808) (h : n / 2 ^ e % 2 = 1) : (bits BinOp.and IntKind.i64 ((n : Int) / 2 ^ e) 1 == 1) = true := by
  rw [bit_is n e hn, h]; rfl
theorem bit_no {n e : Nat} (hn : n < 9223372036854775808) (h : n / 2 ^ e % 2 = 0) : (bits BinOp.and IntKind.i64 ((n : Int) / 2 ^ e) 1 == 1) = false := by
  rw [bit_is n e hn, h]; rfl
def PowEnd (a n : Nat) (e : Ending) : Prop := ((str (a ^ n)).size ≤ 20000 ∧ e = .returned (.tuple #[.string (str (a ^ n)), .int .i64 0])) ∨ (20000 < (str (a ^ n)).size ∧ e = .returned (.tuple #[.string ⟨#[]⟩, .int .i64 4]))

end Go.Proofs.YtgkfdgdlmpggpaaGreatDoor

namespace Go.Proofs.YtgkfdgdlmpggpaaGreatDoor
open Go.RowKit

/-- what the walk is told of a slice of integers that came in -/
def IsRow (k : IntKind) (w : World) (a : Option Addr) (len cap : Nat) (zs : List Int) : Prop :=
  (a = none ∧ len = 0 ∧ cap = 0 ∧ zs = []) ∨
  ∃ x, a = some x ∧ len ≤ cap ∧ cap ≤ maxLen ∧ zs.length = cap ∧ (∀ i, i < zs.length → w.cell? (x.add i) = some (.int k (zs.getD i 0))) ∧ ∀ n ∈ zs, (Lit.int k n).wf = true
theorem IsRow.below {k : IntKind} {w w' : World} {a : Option Addr} {len cap : Nat} {zs : List Int} (h : IsRow k w a len cap zs) (hb : Below w.heap.size w w') : IsRow k w' a len cap zs := by
  rcases h with h | ⟨x, h1, h2, h3, h4, h5, h6⟩
  · exact .inl h
  · refine .inr ⟨x, h1, h2, h3, h4, fun i hi => ?_, h6⟩
    have hc := h5 i hi
    have hlt : (x.add i).block < w.heap.size := by
      apply Nat.lt_of_not_le; intro hle
      unfold World.cell? at hc
      rw [Array.getElem?_eq_none hle] at hc; simp at hc
    rw [hb.cell hlt]; exact hc
/-- the first len cells are bytes -/
theorem IsRow.cells {w : World} {a : Option Addr} {len cap : Nat} {zs : List Int} (h : IsRow .u8 w a len cap zs) (h0 : 0 < len) :
    ∃ b off, a = some ⟨b, off, none⟩ ∧ len ≤ cap ∧ cap ≤ maxLen ∧ ∀ i, i < len → ∃ z : Nat, z ≤ 255 ∧ w.cell? ⟨b, off + i, none⟩ = some (.int .u8 (z : Int)) := by
  rcases h with ⟨_, h, _⟩ | ⟨x, rfl, h2, h3, h4, h5, h6⟩
  · omega
  · obtain ⟨b, off, spot⟩ := x
    have hc := h5 0 (by omega)
    have hspot : spot = none := by simpa [Addr.add] using World.cell?_spot hc
    subst hspot
    refine ⟨b, off, rfl, h2, h3, fun i hi => ?_⟩
    have hi' : i < zs.length := by omega
    have hm : zs.getD i 0 ∈ zs := by rw [List.getD_eq_getElem?_getD, List.getElem?_eq_getElem hi']; exact List.getElem_mem _
    have hbd := bounds_u8 (h6 _ hm)
    refine ⟨(zs.getD i 0).toNat, by omega, ?_⟩
    have := h5 i hi'
    rw [Lib.add_plain] at this
    rw [this, Int.toNat_of_nonneg hbd.1]

theorem c8_append (l m : List UInt8) : c8 (l ++ m) = c8 l ++ c8 m := by simp [c8]
structure Digs (k : Nat) (L : List UInt8) : Prop where
  all : L.all isD = true
  head : L = [] ∨ L.head? ≠ some 48
  len : L.length ≤ k
theorem Digs.canon {k : Nat} {L : List UInt8} (h : Digs k L) (h0 : L ≠ []) : canonL L = true := by
  rcases h.head with h1 | h1
  · exact absurd h1 h0
  · unfold canonL headOk
    have h2 : L.isEmpty = false := by simpa using h0
    have h3 : (L.head? == some 48) = false := by simpa using h1
    rw [h.all, h2, h3]; simp
theorem Digs.snoc {k : Nat} {L : List UInt8} (h : Digs k L) (d : Nat) (hd : d < 10) (h0 : 0 < d ∨ L ≠ []) : Digs (k + 1) (L ++ [UInt8.ofNat (48 + d)]) := by
  refine ⟨?_, .inr ?_, by have := h.len; simp; omega⟩
  · rw [List.all_append, h.all, List.all_cons, ofNat_isD hd]; rfl
  · cases L with
    | nil =>
      intro e
      have e1 : UInt8.ofNat (48 + d) = 48 := by simpa using e
      have := congrArg UInt8.toNat e1
      rw [ofNat_dig hd] at this; simp at this; simp at h0; omega
    | cons c l => rcases h.head with h1 | h1
                  · cases h1
                  · simpa using h1
theorem Digs.mono {k k' : Nat} {L : List UInt8} (h : Digs k L) (hk : k ≤ k') : Digs k' L := ⟨h.all, h.head, by have := h.len; omega⟩
theorem Digs.lt {k : Nat} {L : List UInt8} (h : Digs k L) : val L < 10 ^ k := by
  have h1 := val_lt L h.all
  have h2 : 10 ^ L.length ≤ 10 ^ k := Nat.pow_le_pow_right (by decide) h.len
  omega

end Go.Proofs.YtgkfdgdlmpggpaaGreatDoor
