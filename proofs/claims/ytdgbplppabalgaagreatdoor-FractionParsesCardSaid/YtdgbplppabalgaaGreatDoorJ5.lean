/-
  Texts of one seat, joined: Sub AddSub ZAdd.
-/
import Derived.Test.YtdgbplppabalgaaGreatDoorJ4
import Derived.Test.YtdgbplppabalgaaGreatDoorJ3
namespace Go.Proofs.YtdgbplppabalgaaGreatDoor
open Go.RowKit

theorem sub_step {L : List Nat} {k v c bo y x bo' pa pb : Nat} (hk : k < L.length) (h0 : L[k] = 0) (hI : pv L + pb = pa + 1000000000 ^ k * bo) (hv : v + c = x + 1000000000 * bo') (hc : c = bo + y) :
    pv (L.set k v) + (pb + 1000000000 ^ k * y) = (pa + 1000000000 ^ k * x) + 1000000000 ^ (k + 1) * bo' := by
  have h1 := pv_set v hk
  rw [h0] at h1
  have h2 : 1000000000 ^ k * (v + c) = 1000000000 ^ k * (x + 1000000000 * bo') := by rw [hv]
  have h3 : 1000000000 ^ k * (v + c) = 1000000000 ^ k * v + 1000000000 ^ k * bo + 1000000000 ^ k * y := by rw [hc, Nat.mul_add, Nat.mul_add]; omega
  have h4 : 1000000000 ^ k * (x + 1000000000 * bo') = 1000000000 ^ k * x + 1000000000 ^ (k + 1) * bo' := by rw [Nat.mul_add, ← Nat.mul_assoc, ← Nat.pow_succ]
  rw [h3, h4] at h2
  generalize 1000000000 ^ (k + 1) * bo' = A at *
  generalize 1000000000 ^ k * v = V at *
  generalize 1000000000 ^ k * bo = O at *
  generalize 1000000000 ^ k * y = Y at *
  generalize 1000000000 ^ k * x = X at *
  omega
theorem Pcs.len_mono {p q : List Nat} {a b : Nat} (hp : Pcs p a) (hq : Pcs q b) (h : b ≤ a) : q.length ≤ p.length := by
  refine hq.len_of_lt ?_
  have := pv_lt p hp.lt
  rw [hp.val] at this; omega

set_option maxHeartbeats 6400000 in
set_option maxRecDepth 100000 in
theorem subtract_any (B g cap g' cap' : Nat) (a b : List Nat) (w : World) (ha : Row w B g cap a) (hb : Row w B g' cap' b) (ha9 : lt9 a) (hb9 : lt9 b) (hla : a.length ≤ 200000) (hl : b.length ≤ a.length) (hle : pv b ≤ pv a) :
    Calls Tryz.prog 177 #[.slice (some ⟨g, 0, none⟩) a.length cap, .slice (some ⟨g', 0, none⟩) b.length cap'] w fun e w' => ∃ (h c : Nat) (q : List Nat), e = .returned (.slice (some ⟨h, 0, none⟩) q.length c) ∧ Pcs q (pv a - pv b) ∧ Row w' w.heap.size h c q ∧ Below w.heap.size w w' := by
  have hlc := ha.len_cap
  have hlc' := hb.len_cap
  unfold maxLen at hlc hlc'
  obtain ⟨i0, hi, hz0, hz1, hz2⟩ := info_parts info64
  have HA := Lib.hid ha
  have HB := Lib.hid hb
  have H9A := Lib.hid ha9
  have H9B := Lib.hid hb9
  have HLE := Lib.hid hle
  clear ha hb ha9 hb9 hle
  go_enter Tryz.func177, Tryz.ntmps177
  go_wp2_with (at_make; refine wpList_make_full _ rfl _ _ 161 rfl w.heap.size 135 i0 (.int .u64 0) 1 Tryz.underlying161 hi hz0 hz1 .i64 .i64 _ _ a.length rfl rfl (by omega) (by omega) (by rw [hz2]; omega) (by unfold maxLen; omega) (Nat.le_refl _) ?_; intro w0 hown0 hgrow0)
  have hbel0 : Below w.heap.size w w0 := (Below.refl _ _).grown hgrow0 (Nat.le_refl _) (by intro k hk; cases hk)
  have hrow0 := Row.made hown0
  clear hown0 hgrow0
  go_wp2_with fail
  go_loopw [6, 7, 8, 9, 15] (fun cv _ _ _ iv wr => ∃ (k c : Nat) (L : List Nat), iv = .int .i64 k ∧ k ≤ a.length ∧ cv = .int .u64 c ∧ c ≤ 1 ∧ Hid (L.length = a.length ∧ lt9 L ∧ pv L + pv (b.take k) = pv (a.take k) + 1000000000 ^ k * c ∧ (∀ t (h : t < L.length), k ≤ t → L[t] = 0)) ∧ Row wr w.heap.size w.heap.size a.length L ∧ Below w.heap.size w wr) (fun _ _ _ _ iv _ => a.length - (intOf iv).toNat)
  case atStart =>
    refine ⟨0, 0, z0 a.length [], rfl, Nat.zero_le _, rfl, by omega, ⟨by rw [z0_len]; rfl, ?_, ?_, ?_⟩, hrow0, hbel0⟩
    · unfold z0; rw [List.append_nil]; exact lt9_replicate _
    · unfold z0; rw [List.append_nil, pv_replicate]; simp [pv]
    · intro t ht _; simp [z0]
  case round =>
    obtain ⟨k, c, L, rfl, hk, rfl, hc, HI, hrow, hbel⟩ := hrel
    have hLl := HI.1
    by_cases hlt : k < a.length
    · have hca := (HA.out.below hbel).cell k hlt
      have hx9 := lt9_at H9A.out k hlt
      have hta := pv_take_succ hlt
      obtain ⟨x, hx⟩ : ∃ x : Nat, x = a[k] := ⟨_, rfl⟩
      rw [← hx] at hca hx9 hta
      have hkL : k < L.length := by omega
      have hcp := hrow.cell k hkL
      have hl0 := HI.2.2.2 k hkL (Nat.le_refl _)
      rw [hl0] at hcp
      have hfp := hrow.free k
      have HR := Lib.hid hrow
      have HBL := Lib.hid hbel
      have hzero : ∀ v, ∀ t (h : t < (L.set k v).length), k + 1 ≤ t → (L.set k v)[t] = 0 := fun v t ht hkt => by
        rw [List.getElem_set_ne (by omega)]
        exact HI.2.2.2 t (by rw [List.length_set] at ht; exact ht) (by omega)
      have HZ := Lib.hid hzero
      by_cases hkb : k < b.length
      · have hcb := (HB.out.below hbel).cell k hkb
        have hy9 := lt9_at H9B.out k hkb
        have htb := pv_take_succ hkb
        obtain ⟨y, hy⟩ : ∃ y : Nat, y = b[k] := ⟨_, rfl⟩
        rw [← hy] at hcb hy9 htb
        by_cases hbw : x < c + y
        · have HST := Lib.hid (show pv (L.set k (x + 1000000000 - (c + y))) + pv (b.take (k + 1)) = pv (a.take (k + 1)) + 1000000000 ^ (k + 1) * 1 by
            rw [hta, htb]; exact sub_step (c := c + y) hkL hl0 HI.2.2.1 (by omega) rfl)
          clear hx hy hta htb hl0 hrow hbel hkL hzero
          go_wp2_with fail
          all_goals go_roundw
          case rel =>
            have e := HR.out.set k (x + 1000000000 - (c + y))
            have e2 : ((x + 1000000000 - (c + y) : Nat) : Int) = (x : Int) + 1000000000 - ((c : Int) + (y : Int)) := by omega
            rw [e2] at e
            exact ⟨k + 1, 1, L.set k (x + 1000000000 - (c + y)), by go_num, by omega, rfl, by omega, ⟨by rw [List.length_set]; exact HI.1, lt9_set HI.2.1 (by omega), HST.out, HZ.out _⟩, e, HBL.out.setCell (Nat.le_refl _) _⟩
          case measure => simp [intOf] <;> omega
        · have HST := Lib.hid (show pv (L.set k (x - (c + y))) + pv (b.take (k + 1)) = pv (a.take (k + 1)) + 1000000000 ^ (k + 1) * 0 by
            rw [hta, htb]; exact sub_step (c := c + y) hkL hl0 HI.2.2.1 (by omega) rfl)
          clear hx hy hta htb hl0 hrow hbel hkL hzero
          go_wp2_with fail
          all_goals go_roundw
          case rel =>
            have e := HR.out.set k (x - (c + y))
            have e2 : ((x - (c + y) : Nat) : Int) = (x : Int) - ((c : Int) + (y : Int)) := by omega
            rw [e2] at e
            exact ⟨k + 1, 0, L.set k (x - (c + y)), by go_num, by omega, rfl, by omega, ⟨by rw [List.length_set]; exact HI.1, lt9_set HI.2.1 (by omega), HST.out, HZ.out _⟩, e, HBL.out.setCell (Nat.le_refl _) _⟩
          case measure => simp [intOf] <;> omega
      · have htb : b.take (k + 1) = b.take k := by rw [List.take_of_length_le (by omega), List.take_of_length_le (by omega)]
        by_cases hbw : x < c
        · have HST := Lib.hid (show pv (L.set k (x + 1000000000 - c)) + pv (b.take (k + 1)) = pv (a.take (k + 1)) + 1000000000 ^ (k + 1) * 1 by
            have := sub_step (y := 0) (x := x) (bo' := 1) (v := x + 1000000000 - c) (c := c) hkL hl0 HI.2.2.1 (by omega) (by omega)
            rw [hta, htb]; simpa using this)
          clear hx hta htb hl0 hrow hbel hkL hzero
          go_wp2_with fail
          all_goals go_roundw
          case rel =>
            have e := HR.out.set k (x + 1000000000 - c)
            have e2 : ((x + 1000000000 - c : Nat) : Int) = (x : Int) + 1000000000 - (c : Int) := by omega
            rw [e2] at e
            exact ⟨k + 1, 1, L.set k (x + 1000000000 - c), by go_num, by omega, rfl, by omega, ⟨by rw [List.length_set]; exact HI.1, lt9_set HI.2.1 (by omega), HST.out, HZ.out _⟩, e, HBL.out.setCell (Nat.le_refl _) _⟩
          case measure => simp [intOf] <;> omega
        · have HST := Lib.hid (show pv (L.set k (x - c)) + pv (b.take (k + 1)) = pv (a.take (k + 1)) + 1000000000 ^ (k + 1) * 0 by
            have := sub_step (y := 0) (x := x) (bo' := 0) (v := x - c) (c := c) hkL hl0 HI.2.2.1 (by omega) (by omega)
            rw [hta, htb]; simpa using this)
          clear hx hta htb hl0 hrow hbel hkL hzero
          go_wp2_with fail
          all_goals go_roundw
          case rel =>
            have e := HR.out.set k (x - c)
            have e2 : ((x - c : Nat) : Int) = (x : Int) - (c : Int) := by omega
            rw [e2] at e
            exact ⟨k + 1, 0, L.set k (x - c), by go_num, by omega, rfl, by omega, ⟨by rw [List.length_set]; exact HI.1, lt9_set HI.2.1 (by omega), HST.out, HZ.out _⟩, e, HBL.out.setCell (Nat.le_refl _) _⟩
          case measure => simp [intOf] <;> omega
    · obtain rfl : k = a.length := by omega
      have hpv : pv L = pv a - pv b := by
        have h2 := HI.2.2.1
        rw [List.take_length, List.take_of_length_le (show b.length ≤ a.length by omega)] at h2
        have h3 := pv_lt L HI.2.1
        rw [HI.1] at h3
        have h4 := HLE.out
        rcases (show c = 0 ∨ c = 1 by omega) with h | h
        · rw [h] at h2; omega
        · rw [h] at h2; omega
      have ht := trim_any w.heap.size w.heap.size a.length L _ hrow
      rw [HI.1] at ht
      have HT := Lib.hid ht
      have HPV := Lib.hid hpv
      have HR2 := Lib.hid hrow
      have HB2 := Lib.hid hbel
      clear ht hpv hrow hbel
      go_wp2_with fail
      refine HT.out.mono ?_
      rintro e w1 ⟨rfl, rfl⟩
      go_wp2_with fail
      go_ret
      refine ⟨w.heap.size, a.length, trimP L, rfl, ?_, ?_, HB2.out⟩
      · rw [← HPV.out]; exact Pcs.of_trim HI.2.1
      · have := HR2.out.take (trimP L).length (trimP_props _).2.2.2.1
        rw [← (trimP_props L).2.2.2.2] at this; exact this
end Go.Proofs.YtdgbplppabalgaaGreatDoor

namespace Go.Proofs.YtdgbplppabalgaaGreatDoor
open Go.RowKit

theorem Pcs.add_len {p q r : List Nat} {a b c n : Nat} (hp : Pcs p a) (hq : Pcs q b) (hr : Pcs r c) (hc : c = a + b) (h1 : p.length ≤ n) (h2 : q.length ≤ n) : r.length ≤ n + 1 := by
  refine hr.len_of_lt ?_
  have k1 := pv_lt p hp.lt
  have k2 := pv_lt q hq.lt
  rw [hp.val] at k1
  rw [hq.val] at k2
  have k3 : (1000000000 : Nat) ^ p.length ≤ 1000000000 ^ n := Nat.pow_le_pow_right (by decide) h1
  have k4 : (1000000000 : Nat) ^ q.length ≤ 1000000000 ^ n := Nat.pow_le_pow_right (by decide) h2
  rw [hc, Nat.pow_succ]; omega

set_option maxHeartbeats 1600000 in
set_option maxRecDepth 100000 in
theorem addN_any (a b : Nat) (w : World) (hs : Std w) (ha : (str a).size ≤ 450000) (hb : (str b).size ≤ 450000) :
    Calls Tryz.prog 136 #[.string (str a), .string (str b)] w fun e w' => e = .returned (.string (str (a + b))) ∧ Below w.heap.size w w' := by
  have HCUT := Lib.hid (fun wx => cutBoth_any a b wx (by omega) (by omega))
  obtain ⟨s, hsum⟩ : ∃ s : Nat, s = a + b := ⟨_, rfl⟩
  have HSUM := Lib.hid hsum
  rw [← hsum]
  have HLONG := Lib.hid (fun (w3 : World) (g cap : Nat) (p : List Nat) (g' cap' : Nat) (q : List Nat) (B : Nat) (hp : Pcs p a) (hq : Pcs q b) (hrp : Row w3 B g cap p) (hrq : Row w3 B g' cap' q) =>
    add_any B g cap g' cap' p q w3 hrp hrq hp.lt hq.lt (by have := hp.len_le (n := 50000) (by omega); omega) (by have := hq.len_le (n := 50000) (by omega); omega))
  by_cases h64 : a < 18446744073709551616 ∧ b < 18446744073709551616
  · have HBY := Lib.hid (both_yes a b h64.1 h64.2 w)
    have ha0 := fun wx => Tryz.bits_Add64 a b 0 (by omega) wx
    by_cases hlt : s < 18446744073709551616
    · have hadd : ∀ wx, (callFunc 174 #[.int .u64 (a : Int), .int .u64 (b : Int), .int .u64 0]).run Tryz.prog wx = .ok (.value (.tuple #[.int .u64 (s : Int), .int .u64 0])) wx := fun wx => by
        have h := ha0 wx
        rw [Nat.add_zero, ← hsum, Nat.div_eq_of_lt hlt, Nat.mod_eq_of_lt hlt] at h
        exact h
      have HOF := Lib.hid (fun wx hx => of_any s hlt wx hx)
      clear ha0 hlt h64 hsum
      go_enter Tryz.func136, Tryz.ntmps136
      go_wp2_with fail
      refine HBY.out.mono ?_
      rintro e w1 ⟨rfl, hb1⟩
      go_wp2_with fail
      refine (HOF.out _ (hs.below hb1)).mono ?_
      rintro e w3 ⟨rfl, hb3⟩
      go_wp2_with fail
      go_ret
      exact ⟨rfl, hb1.trans (hb3.mono hb1.size)⟩
    · have hdv : s / 18446744073709551616 = 1 := by omega
      obtain ⟨l, hl⟩ : ∃ l : Nat, l = s % 18446744073709551616 := ⟨_, rfl⟩
      have hadd : ∀ wx, (callFunc 174 #[.int .u64 (a : Int), .int .u64 (b : Int), .int .u64 0]).run Tryz.prog wx = .ok (.value (.tuple #[.int .u64 (l : Int), .int .u64 1])) wx := fun wx => by
        have h := ha0 wx
        rw [Nat.add_zero, ← hsum, hdv, ← hl] at h
        exact h
      clear ha0 hlt h64 hsum hdv hl
      go_enter Tryz.func136, Tryz.ntmps136
      go_wp2_with fail
      refine HBY.out.mono ?_
      rintro e w1 ⟨rfl, hb1⟩
      go_wp2_with fail
      refine (HCUT.out _).mono ?_
      rintro e w3 ⟨g, cap, p, g', cap', q, rfl, hp, hq, hrp, hrq, hgg, hb3⟩
      have hlp := hp.len_le (n := 50000) (by omega)
      have hlq := hq.len_le (n := 50000) (by omega)
      have HMU := Lib.hid (HLONG.out w3 g cap p g' cap' q _ hp hq hrp hrq)
      rw [hp.val, hq.val, ← HSUM.out] at HMU
      have HP := Lib.hid hp
      have HQ := Lib.hid hq
      clear hp hq hrp hrq hgg
      go_wp2_with fail
      refine HMU.out.mono ?_
      rintro e w4 ⟨g2, cap2, r, rfl, hr, hrr, hb4⟩
      have hlr := HP.out.add_len HQ.out hr HSUM.out hlp hlq
      have HJ := Lib.hid (join_any _ g2 cap2 r s w4 hrr hr (by omega))
      clear hr hrr
      go_wp2_with fail
      refine HJ.out.mono ?_
      rintro e w5 ⟨rfl, hb5⟩
      go_wp2_with fail
      go_ret
      exact ⟨rfl, ((hb1.trans (hb3.mono hb1.size)).trans (hb4.mono (Nat.le_trans hb1.size hb3.size))).trans (hb5.mono (Nat.le_trans (Nat.le_trans hb1.size hb3.size) hb4.size))⟩
  · have HBN := Lib.hid (both_no a b h64 w hs)
    clear h64 hsum
    go_enter Tryz.func136, Tryz.ntmps136
    go_wp2_with fail
    refine HBN.out.mono ?_
    rintro e w1 ⟨x, y, rfl, hb1⟩
    go_wp2_with fail
    refine (HCUT.out _).mono ?_
    rintro e w3 ⟨g, cap, p, g', cap', q, rfl, hp, hq, hrp, hrq, hgg, hb3⟩
    have hlp := hp.len_le (n := 50000) (by omega)
    have hlq := hq.len_le (n := 50000) (by omega)
    have HMU := Lib.hid (HLONG.out w3 g cap p g' cap' q _ hp hq hrp hrq)
    rw [hp.val, hq.val, ← HSUM.out] at HMU
    have HP := Lib.hid hp
    have HQ := Lib.hid hq
    clear hp hq hrp hrq hgg
    go_wp2_with fail
    refine HMU.out.mono ?_
    rintro e w4 ⟨g2, cap2, r, rfl, hr, hrr, hb4⟩
    have hlr := HP.out.add_len HQ.out hr HSUM.out hlp hlq
    have HJ := Lib.hid (join_any _ g2 cap2 r s w4 hrr hr (by omega))
    clear hr hrr
    go_wp2_with fail
    refine HJ.out.mono ?_
    rintro e w5 ⟨rfl, hb5⟩
    go_wp2_with fail
    go_ret
    exact ⟨rfl, ((hb1.trans (hb3.mono hb1.size)).trans (hb4.mono (Nat.le_trans hb1.size hb3.size))).trans (hb5.mono (Nat.le_trans (Nat.le_trans hb1.size hb3.size) hb4.size))⟩

/-- the ways of Sub behind the quick one -/
theorem sub_size {a b : Nat} (ha : (str a).size ≤ 450000) (h : b ≤ a) : (str b).size ≤ 450000 := Nat.le_trans (size_mono h) ha

set_option maxHeartbeats 1600000 in
set_option maxRecDepth 100000 in
theorem subN_yes (a b : Nat) (w : World) (hs : Std w) (ha : (str a).size ≤ 450000) (hle : b ≤ a) :
    Calls Tryz.prog 138 #[.string (str a), .string (str b)] w fun e w' => e = .returned (.tuple #[.string (str (a - b)), .int .i64 0]) ∧ Below w.heap.size w w' := by
  have hb := sub_size ha hle
  have HCUT := Lib.hid (fun wx => cutBoth_any a b wx (by omega) (by omega))
  obtain ⟨s, hsum⟩ : ∃ s : Nat, s = a - b := ⟨_, rfl⟩
  have HSUM := Lib.hid hsum
  rw [← hsum]
  by_cases h64 : a < 18446744073709551616 ∧ b < 18446744073709551616
  · have HBY := Lib.hid (both_yes a b h64.1 h64.2 w)
    have HOF := Lib.hid (fun wx hx => of_any s (by omega) wx hx)
    have hsub : (a : Int) - (b : Int) = (s : Int) := by omega
    have hge : (b : Int) ≤ (a : Int) := by omega
    have hwr : IntKind.u64.wrap (s : Int) = (s : Int) := by rw [IntKind.wrap_u64]; omega
    clear h64 hsum hle
    go_enter Tryz.func138, Tryz.ntmps138
    go_wp2_with fail
    refine HBY.out.mono ?_
    rintro e w1 ⟨rfl, hb1⟩
    go_wp2_with fail
    refine (HOF.out _ (hs.below hb1)).mono ?_
    rintro e w3 ⟨rfl, hb3⟩
    go_wp2_with fail
    go_ret2
    exact ⟨rfl, hb1.trans (hb3.mono hb1.size)⟩
  · have HBN := Lib.hid (both_no a b h64 w hs)
    have hc : ¬ cmpN a b < 0 := by
      unfold cmpN; rw [if_neg (by omega)]; split <;> decide
    have HCM := Lib.hid (fun wx => compare_any a b wx)
    obtain ⟨c, hcc⟩ : ∃ c, c = cmpN a b := ⟨_, rfl⟩
    rw [← hcc] at hc HCM
    have HLE := Lib.hid hle
    clear h64 hsum hcc hle
    go_enter Tryz.func138, Tryz.ntmps138
    go_wp2_with fail
    refine HBN.out.mono ?_
    rintro e w1 ⟨x, y, rfl, hb1⟩
    go_wp2_with fail
    refine (HCUT.out _).mono ?_
    rintro e w3 ⟨g, cap, p, g', cap', q, rfl, hp, hq, hrp, hrq, hgg, hb3⟩
    have hlp := hp.len_le (n := 50000) (by omega)
    have hlq := hp.len_mono hq HLE.out
    have HMU := Lib.hid (subtract_any _ g cap g' cap' p q w3 hrp hrq hp.lt hq.lt (by omega) hlq (by rw [hp.val, hq.val]; exact HLE.out))
    rw [hp.val, hq.val, ← HSUM.out] at HMU
    have HP := Lib.hid hp
    clear hp hq hrp hrq hgg
    go_wp2_with fail
    refine (HCM.out _).mono ?_
    rintro e w4 ⟨rfl, rfl⟩
    go_wp2_with fail
    refine HMU.out.mono ?_
    rintro e w4 ⟨g2, cap2, r, rfl, hr, hrr, hb4⟩
    have hlr := HP.out.len_mono hr (by rw [HSUM.out]; omega)
    have HJ := Lib.hid (join_any _ g2 cap2 r s w4 hrr hr (by omega))
    clear hr hrr
    go_wp2_with fail
    refine HJ.out.mono ?_
    rintro e w5 ⟨rfl, hb5⟩
    go_wp2_with fail
    go_ret2
    exact ⟨rfl, ((hb1.trans (hb3.mono hb1.size)).trans (hb4.mono (Nat.le_trans hb1.size hb3.size))).trans (hb5.mono (Nat.le_trans (Nat.le_trans hb1.size hb3.size) hb4.size))⟩

set_option maxHeartbeats 1600000 in
set_option maxRecDepth 100000 in
theorem subN_no (a b : Nat) (w : World) (hs : Std w) (hb : (str b).size ≤ 450000) (hlt : a < b) :
    Calls Tryz.prog 138 #[.string (str a), .string (str b)] w fun e w' => e = .returned (.tuple #[.string ⟨#[]⟩, .int .i64 3]) ∧ Below w.heap.size w w' := by
  have ha := sub_size hb (Nat.le_of_lt hlt)
  have HCUT := Lib.hid (fun wx => cutBoth_any a b wx (by omega) (by omega))
  have HCM := Lib.hid (fun wx => compare_any a b wx)
  rw [cmp_lt hlt] at HCM
  by_cases h64 : a < 18446744073709551616 ∧ b < 18446744073709551616
  · have HBY := Lib.hid (both_yes a b h64.1 h64.2 w)
    have hge : ¬ (b : Int) ≤ (a : Int) := by omega
    clear h64 hlt
    go_enter Tryz.func138, Tryz.ntmps138
    go_wp2_with fail
    refine HBY.out.mono ?_
    rintro e w1 ⟨rfl, hb1⟩
    go_wp2_with fail
    refine (HCUT.out _).mono ?_
    rintro e w3 ⟨g, cap, p, g', cap', q, rfl, hp, hq, hrp, hrq, hgg, hb3⟩
    clear hp hq hrp hrq hgg
    go_wp2_with fail
    refine (HCM.out _).mono ?_
    rintro e w4 ⟨rfl, rfl⟩
    go_wp2_with fail
    go_ret2
    exact ⟨rfl, hb1.trans (hb3.mono hb1.size)⟩
  · have HBN := Lib.hid (both_no a b h64 w hs)
    clear h64 hlt
    go_enter Tryz.func138, Tryz.ntmps138
    go_wp2_with fail
    refine HBN.out.mono ?_
    rintro e w1 ⟨x, y, rfl, hb1⟩
    go_wp2_with fail
    refine (HCUT.out _).mono ?_
    rintro e w3 ⟨g, cap, p, g', cap', q, rfl, hp, hq, hrp, hrq, hgg, hb3⟩
    clear hp hq hrp hrq hgg
    go_wp2_with fail
    refine (HCM.out _).mono ?_
    rintro e w4 ⟨rfl, rfl⟩
    go_wp2_with fail
    go_ret2
    exact ⟨rfl, hb1.trans (hb3.mono hb1.size)⟩
end Go.Proofs.YtdgbplppabalgaaGreatDoor

namespace Go.Proofs.YtdgbplppabalgaaGreatDoor
open Go.RowKit

theorem zsz_add {a b k : Nat} (ha : (str a).size ≤ k) (hb : (str b).size ≤ k) (hk : 0 < k) : (str (a + b)).size ≤ k + 1 := by
  refine str_big ?_ (by omega)
  have h1 := lt_of_size ha
  have h2 := lt_of_size hb
  rw [Nat.pow_succ]; omega
theorem zsz_le {a b k : Nat} (ha : (str a).size ≤ k) (h : b ≤ a) : (str b).size ≤ k := Nat.le_trans (size_mono h) ha
theorem if_neg_val (b : Bool) (n : Nat) (z : Int) (h : z = if b = true then -(n : Int) else (n : Int)) : zS (if b = true then -(n : Int) else (n : Int)) = zS z := by rw [h]
set_option maxHeartbeats 1600000 in
set_option maxRecDepth 100000 in
theorem addW_any (x y : Int) (w : World) (hs : Std w) (hx : (str x.natAbs).size ≤ 400000) (hy : (str y.natAbs).size ≤ 400000) :
    Calls Tryz.prog 96 #[.string (zS x), .string (zS y)] w fun e w' => e = .returned (.string (zS (x + y))) ∧ Below w.heap.size w w' := by
  have HB := Lib.hid (both_any x y w hs (by omega) (by omega))
  have HSX := Lib.hid (fun wx => split_any x wx (by omega))
  have HSY := Lib.hid (fun wx => split_any y wx (by omega))
  have HS := Lib.hid hs
  cases hf : (fewB x && fewB y) with
  | true =>
    rw [hf] at HB
    have hb : -1000000000000000000 < x ∧ x < 1000000000000000000 ∧ -1000000000000000000 < y ∧ y < 1000000000000000000 := by
      unfold fewB at hf; simp at hf; omega
    have HO := Lib.hid (fun wx hw => ofW_any (x + y) wx hw (by omega) (by omega))
    have hw := IntWalk.i64_in (x + y) ⟨by omega, by omega⟩
    obtain ⟨s, hs2⟩ : ∃ s, s = zS x := ⟨_, rfl⟩
    obtain ⟨t, ht⟩ : ∃ t, t = zS y := ⟨_, rfl⟩
    rw [← hs2] at HB ⊢
    rw [← ht] at HB ⊢
    clear hs2 ht hs hx hy HSX HSY hf
    go_enter Tryz.func96, Tryz.ntmps96
    go_wp2_with fail
    refine HB.out.mono ?_
    rintro e w1 ⟨⟨u, v, rfl, huv⟩, h1⟩
    obtain ⟨rfl, rfl⟩ := huv trivial
    have B1 := Lib.hid h1
    clear h1 huv
    go_wp2_with fail
    refine (HO.out _ (HS.out.below B1.out)).mono ?_
    rintro e w2 ⟨rfl, h2⟩
    have B2 := Lib.hid (B1.out.trans (h2.mono B1.out.size))
    clear h2
    go_wp2_with fail
    go_ret
    exact ⟨rfl, B2.out⟩
  | false =>
    rw [hf] at HB
    obtain ⟨a, ha⟩ : ∃ a : Nat, a = x.natAbs := ⟨_, rfl⟩
    obtain ⟨b, hb⟩ : ∃ b : Nat, b = y.natAbs := ⟨_, rfl⟩
    rw [← ha] at hx HSX
    rw [← hb] at hy HSY
    have HCM := Lib.hid (fun wx => compare_any a b wx)
    obtain ⟨s, hs2⟩ : ∃ s, s = zS x := ⟨_, rfl⟩
    obtain ⟨t, ht⟩ : ∃ t, t = zS y := ⟨_, rfl⟩
    by_cases hsame : (x < 0 ↔ y < 0)
    · have hsz := zsz_add hx hy (by decide)
      have HAD := Lib.hid (fun wx hw => addN_any a b wx hw (by omega) (by omega))
      have hsg := fun wx => signed_any (decide (x < 0)) (a + b) wx (by omega)
      have hv : x + y = if decide (x < 0) = true then -((a + b : Nat) : Int) else ((a + b : Nat) : Int) := by
        by_cases h : x < 0
        · rw [decide_eq_true h, if_pos rfl]; have := hsame.1 h; push_cast; omega
        · rw [decide_eq_false h, if_neg (by decide)]; have : ¬ y < 0 := fun h2 => h (hsame.2 h2); push_cast; omega
      simp only [← hv] at hsg
      have he : decide (x < 0) = decide (y < 0) := by rw [Bool.eq_iff_iff, decide_eq_true_iff, decide_eq_true_iff]; exact hsame
      rw [← he] at HSY
      obtain ⟨N, hN⟩ : ∃ N, N = decide (x < 0) := ⟨_, rfl⟩
      rw [← hN] at HSX HSY hsg
      rw [← hs2] at HB HSX ⊢
      rw [← ht] at HB HSY ⊢
      obtain ⟨p, hp⟩ : ∃ p, p = str a := ⟨_, rfl⟩
      obtain ⟨q, hq⟩ : ∃ q, q = str b := ⟨_, rfl⟩
      obtain ⟨r, hr⟩ : ∃ r, r = str (a + b) := ⟨_, rfl⟩
      rw [← hp] at HSX HAD HCM
      rw [← hq] at HSY HAD HCM
      rw [← hr] at HAD hsg
      have HSG := Lib.hid hsg
      obtain ⟨Z, hZ⟩ : ∃ Z, Z = zS (x + y) := ⟨_, rfl⟩
      rw [← hZ] at HSG ⊢
      clear hs hx hy hf ha hb hs2 ht hsame hsz hv he hN hp hq hr hsg hZ HCM
      cases N
      all_goals
        go_enter Tryz.func96, Tryz.ntmps96
        go_wp2_with fail
        refine HB.out.mono ?_
        rintro e w1 ⟨⟨u, v, rfl, huv⟩, h1⟩
        have B1 := Lib.hid h1
        clear h1 huv
        go_wp2_with fail
        refine (HSX.out _).mono ?_
        rintro e w2 ⟨rfl, h2⟩
        have B2 := Lib.hid (B1.out.trans (h2.mono B1.out.size))
        clear h2
        go_wp2_with fail
        refine (HSY.out _).mono ?_
        rintro e w3 ⟨rfl, h3⟩
        have B3 := Lib.hid (B2.out.trans (h3.mono B2.out.size))
        clear h3
        go_wp2_with fail
        refine (HAD.out _ (HS.out.below B3.out)).mono ?_
        rintro e w4 ⟨rfl, h4⟩
        have B4 := Lib.hid (B3.out.trans (h4.mono B3.out.size))
        clear h4
        go_wp2_with fail
        refine (HSG.out _).mono ?_
        rintro e w5 ⟨rfl, rfl⟩
        go_wp2_with fail
        go_ret
        exact ⟨rfl, B4.out⟩
    · have hne : decide (x < 0) = !decide (y < 0) := by
        by_cases h : x < 0
        · have : ¬ y < 0 := fun h2 => hsame ⟨fun _ => h2, fun _ => h⟩
          rw [decide_eq_true h, decide_eq_false this]; rfl
        · have : y < 0 := by
            apply Classical.byContradiction; intro h2; exact hsame ⟨fun h3 => absurd h3 h, fun h3 => absurd h3 h2⟩
          rw [decide_eq_false h, decide_eq_true this]; rfl
      obtain ⟨M, hM⟩ : ∃ M, M = decide (y < 0) := ⟨_, rfl⟩
      rw [← hM] at hne HSY
      rw [hne] at HSX
      by_cases hlt : a < b
      · rw [cmp_lt hlt] at HCM
        have hsz := zsz_le hy (Nat.sub_le b a)
        have HSB := Lib.hid (fun wx hw => subN_yes b a wx hw (by omega) (by omega))
        have hsg := fun wx => signed_any M (b - a) wx (by omega)
        have hv : x + y = if M = true then -((b - a : Nat) : Int) else ((b - a : Nat) : Int) := by
          by_cases h : y < 0
          · rw [hM, decide_eq_true h, if_pos rfl]; rw [hM, decide_eq_true h] at hne; have h2 : ¬ x < 0 := by simpa using hne
            omega
          · rw [hM, decide_eq_false h, if_neg (by decide)]; rw [hM, decide_eq_false h] at hne; have h2 : x < 0 := by simpa using hne
            omega
        simp only [← hv] at hsg
        rw [← hs2] at HB HSX ⊢
        rw [← ht] at HB HSY ⊢
        obtain ⟨p, hp⟩ : ∃ p, p = str a := ⟨_, rfl⟩
        obtain ⟨q, hq⟩ : ∃ q, q = str b := ⟨_, rfl⟩
        obtain ⟨r, hr⟩ : ∃ r, r = str (b - a) := ⟨_, rfl⟩
        rw [← hp] at HSX HSB HCM
        rw [← hq] at HSY HSB HCM
        rw [← hr] at HSB hsg
        have HSG := Lib.hid hsg
        obtain ⟨Z, hZ⟩ : ∃ Z, Z = zS (x + y) := ⟨_, rfl⟩
        rw [← hZ] at HSG ⊢
        clear hs hx hy hf ha hb hs2 ht hsame hsz hv hne hM hp hq hr hsg hZ hlt
        cases M
        all_goals
          go_enter Tryz.func96, Tryz.ntmps96
          go_wp2_with fail
          refine HB.out.mono ?_
          rintro e w1 ⟨⟨u, v, rfl, huv⟩, h1⟩
          have B1 := Lib.hid h1
          clear h1 huv
          go_wp2_with fail
          refine (HSX.out _).mono ?_
          rintro e w2 ⟨rfl, h2⟩
          have B2 := Lib.hid (B1.out.trans (h2.mono B1.out.size))
          clear h2
          go_wp2_with fail
          refine (HSY.out _).mono ?_
          rintro e w3 ⟨rfl, h3⟩
          have B3 := Lib.hid (B2.out.trans (h3.mono B2.out.size))
          clear h3
          go_wp2_with fail
          refine (HCM.out _).mono ?_
          rintro e w4 ⟨rfl, rfl⟩
          go_wp2_with fail
          refine (HSB.out _ (HS.out.below B3.out)).mono ?_
          rintro e w4 ⟨rfl, h4⟩
          have B4 := Lib.hid (B3.out.trans (h4.mono B3.out.size))
          clear h4
          go_wp2_with fail
          refine (HSG.out _).mono ?_
          rintro e w5 ⟨rfl, rfl⟩
          go_wp2_with fail
          go_ret
          exact ⟨rfl, B4.out⟩
      · have hsz := zsz_le hx (Nat.sub_le a b)
        have hcn : decide (cmpN a b < 0) = false := by
          rcases cmpN_ways a b with ⟨h, e⟩ | ⟨h, e⟩ | ⟨h, e⟩
          · omega
          · rw [e]; rfl
          · rw [e]; rfl
        obtain ⟨C, hC⟩ : ∃ C, C = cmpN a b := ⟨_, rfl⟩
        rw [← hC] at HCM hcn
        have HSB := Lib.hid (fun wx hw => subN_yes a b wx hw (by omega) (by omega))
        have hsg := fun wx => signed_any (!M) (a - b) wx (by omega)
        have hv : x + y = if (!M) = true then -((a - b : Nat) : Int) else ((a - b : Nat) : Int) := by
          by_cases h : y < 0
          · rw [hM, decide_eq_true h]; rw [hM, decide_eq_true h] at hne; have h2 : ¬ x < 0 := by simpa using hne
            simp; omega
          · rw [hM, decide_eq_false h]; rw [hM, decide_eq_false h] at hne; have h2 : x < 0 := by simpa using hne
            simp; omega
        simp only [← hv] at hsg
        rw [← hs2] at HB HSX ⊢
        rw [← ht] at HB HSY ⊢
        obtain ⟨p, hp⟩ : ∃ p, p = str a := ⟨_, rfl⟩
        obtain ⟨q, hq⟩ : ∃ q, q = str b := ⟨_, rfl⟩
        obtain ⟨r, hr⟩ : ∃ r, r = str (a - b) := ⟨_, rfl⟩
        rw [← hp] at HSX HSB HCM
        rw [← hq] at HSY HSB HCM
        rw [← hr] at HSB hsg
        have HSG := Lib.hid hsg
        obtain ⟨Z, hZ⟩ : ∃ Z, Z = zS (x + y) := ⟨_, rfl⟩
        rw [← hZ] at HSG ⊢
        clear hs hx hy hf ha hb hs2 ht hsame hsz hv hne hM hp hq hr hsg hZ hlt hC
        cases M
        all_goals
          go_enter Tryz.func96, Tryz.ntmps96
          go_wp2_with fail
          refine HB.out.mono ?_
          rintro e w1 ⟨⟨u, v, rfl, huv⟩, h1⟩
          have B1 := Lib.hid h1
          clear h1 huv
          go_wp2_with fail
          refine (HSX.out _).mono ?_
          rintro e w2 ⟨rfl, h2⟩
          have B2 := Lib.hid (B1.out.trans (h2.mono B1.out.size))
          clear h2
          go_wp2_with fail
          refine (HSY.out _).mono ?_
          rintro e w3 ⟨rfl, h3⟩
          have B3 := Lib.hid (B2.out.trans (h3.mono B2.out.size))
          clear h3
          go_wp2_with fail
          refine (HCM.out _).mono ?_
          rintro e w4 ⟨rfl, rfl⟩
          go_wp2_with fail
          refine (HSB.out _ (HS.out.below B3.out)).mono ?_
          rintro e w4 ⟨rfl, h4⟩
          have B4 := Lib.hid (B3.out.trans (h4.mono B3.out.size))
          clear h4
          go_wp2_with fail
          refine (HSG.out _).mono ?_
          rintro e w5 ⟨rfl, rfl⟩
          go_wp2_with fail
          go_ret
          exact ⟨rfl, B4.out⟩
end Go.Proofs.YtdgbplppabalgaaGreatDoor
