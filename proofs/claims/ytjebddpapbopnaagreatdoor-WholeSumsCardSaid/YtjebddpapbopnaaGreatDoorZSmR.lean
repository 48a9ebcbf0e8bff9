/-
  The reference of package whole: Small, quick, Of.
-/
import Derived.Test.YtjebddpapbopnaaGreatDoorG4
namespace Go.Proofs.YtjebddpapbopnaaGreatDoor
open Go.RowKit

theorem val_take_le (s : ByteArray) (k : Nat) : val (s.data.toList.take k) ≤ val s.data.toList := take_le s.data.toList k
theorem tdiv_test {n d : Int} (hd0 : 0 ≤ d) (hd9 : d ≤ 9) : decide (n < (-9223372036854775808 + d).tdiv 10) = decide (n * 10 - d < -9223372036854775808) := by
  have h : (-9223372036854775808 + d).tdiv 10 = -((9223372036854775808 - d) / 10) := by
    rw [show -9223372036854775808 + d = -(9223372036854775808 - d) by omega, Int.neg_tdiv, Int.tdiv_eq_ediv_of_nonneg (by omega)]
  rw [h, Bool.eq_iff_iff, decide_eq_true_iff, decide_eq_true_iff]
  omega
theorem tdiv_rng {d : Int} (hd0 : 0 ≤ d) (hd9 : d ≤ 9) : -922337203685477581 ≤ (-9223372036854775808 + d).tdiv 10 ∧ (-9223372036854775808 + d).tdiv 10 ≤ 0 := by
  have h : (-9223372036854775808 + d).tdiv 10 = -((9223372036854775808 - d) / 10) := by
    rw [show -9223372036854775808 + d = -(9223372036854775808 - d) by omega, Int.neg_tdiv, Int.tdiv_eq_ediv_of_nonneg (by omega)]
  rw [h]; omega
/-- the loop of the reference's Small: over a text whose digits begin at place o -/
structure SmT (s : ByteArray) (o a : Nat) : Prop where
  sz : o < s.size
  lim : s.size ≤ 1000001
  dig : ∀ k (h : k < s.size), o ≤ k → isD (s[k]'h) = true
  vl : ∀ k (h : k < s.size), o ≤ k → val ((s.data.toList.drop o).take (k + 1 - o)) = 10 * val ((s.data.toList.drop o).take (k - o)) + ((s[k]'h).toNat - 48)
  all : val ((s.data.toList.drop o).take (s.size - o)) = a
  le : ∀ k, val ((s.data.toList.drop o).take k) ≤ a
theorem smT_of {s : ByteArray} {o a : Nat} (hd : s.data.toList.drop o = Lib.decDigits a) (hs : o < s.size) (hl : s.size ≤ 1000001) : SmT s o a := by
  have hle := len_list s
  have hg : ∀ k (h : k < s.size), o ≤ k → (Lib.decDigits a)[k - o]? = some (s[k]'h) := fun k h ho => by
    rw [← hd, List.getElem?_drop, show o + (k - o) = k by omega, List.getElem?_eq_getElem (by omega), at_list]
  refine ⟨hs, hl, fun k h ho => ?_, fun k h ho => ?_, ?_, fun k => ?_⟩
  · have hm := List.mem_of_getElem? (hg k h ho)
    exact List.all_eq_true.1 (all_dd a) _ hm
  · have h1 := hg k h ho
    rw [hd, show k + 1 - o = (k - o) + 1 by omega, List.take_add_one, h1, Option.toList_some, val_snoc]
  · rw [hd, List.take_of_length_le, val_dd]
    rw [← hd, List.length_drop]; omega
  · rw [hd]
    have := take_le (Lib.decDigits a) k
    rw [val_dd] at this; exact this
theorem smT_pos (z : Int) (h : ¬ z < 0) (hz : (str z.natAbs).size ≤ 1000000) : SmT (zS z) 0 z.natAbs := by
  rw [zS_pos h]
  exact smT_of (by rw [List.drop_zero, str_list]) (str_pos _) (by omega)
theorem smT_neg (z : Int) (h : z < 0) (hz : (str z.natAbs).size ≤ 1000000) : SmT (zS z) 1 z.natAbs := by
  rw [zS_neg h]
  have hn := negS z.natAbs
  refine smT_of ?_ (by have := hn.sz; have := str_pos z.natAbs; omega) (by have := hn.sz; omega)
  rw [ByteArray.data_append, Array.toList_append, ← str_list]; rfl
theorem inI_of {z : Int} : inI z = true ↔ -9223372036854775808 ≤ z ∧ z ≤ 9223372036854775807 := by
  unfold inI; rw [Bool.and_eq_true, decide_eq_true_iff, decide_eq_true_iff]
theorem inI_no {z : Int} (h : ¬ (-9223372036854775808 ≤ z ∧ z ≤ 9223372036854775807)) : inI z = false := by
  cases hi : inI z with
  | false => rfl
  | true => exact absurd (inI_of.1 hi) h
set_option maxHeartbeats 3200000 in
theorem smallZ_any (z : Int) (w : World) (hz : (str z.natAbs).size ≤ 1000000) :
    Calls Tryz.prog 21 #[.string (zS z)] w fun e w' => e = .returned (.tuple #[.int .i64 (smV z), .bool (inI z)]) ∧ w = w' := by
  have hf := zF z hz
  by_cases h : z < 0
  · have hT := smT_neg z h hz
    have HR := Lib.hid (show z.natAbs ≤ 9223372036854775808 → inI z = true ∧ smV z = -(z.natAbs : Int) from fun q => by
      have := inI_of.2 (show -9223372036854775808 ≤ z ∧ z ≤ 9223372036854775807 by omega)
      exact ⟨this, by unfold smV; rw [this, if_pos rfl]; omega⟩)
    have HN := Lib.hid (show 9223372036854775808 < z.natAbs → inI z = false ∧ smV z = 0 from fun q => by
      have := inI_no (z := z) (by omega)
      exact ⟨this, by unfold smV; rw [this]; rfl⟩)
    obtain ⟨a, ha⟩ : ∃ a, a = z.natAbs := ⟨_, rfl⟩
    rw [← ha] at hT HR HN
    obtain ⟨I, hI⟩ : ∃ I, I = inI z := ⟨_, rfl⟩
    obtain ⟨V, hV⟩ : ∃ V, V = smV z := ⟨_, rfl⟩
    rw [← hI, ← hV] at HR HN ⊢
    obtain ⟨s, hs⟩ : ∃ s, s = zS z := ⟨_, rfl⟩
    rw [← hs] at hf hT ⊢
    obtain ⟨h0, h1, h2, h3, h4⟩ := hf
    rw [decide_eq_true h] at h2
    obtain ⟨t1, t2, t3, t4, t5, t6⟩ := hT
    have T3 := Lib.hid t3
    have T4 := Lib.hid t4
    have T5 := Lib.hid t5
    have T6 := Lib.hid t6
    have hp : (0 : Int) < s.size := by omega
    have hq : ((1 : Int) == s.size) = false := by rw [beq_eq_false_iff_ne]; omega
    clear hs hz h3 h4 hI hV ha h t3 t4 t5 t6
    go_enter Tryz.func21, Tryz.ntmps21
    go_wp2_with fail
    go_loop [5, 7, 8] (fun iv nv _ => ∃ k m : Nat, k ≤ s.size ∧ 1 ≤ k ∧ iv = .int .i64 k ∧ nv = .int .i64 (-(m : Int)) ∧ m ≤ 9223372036854775808 ∧ Hid (m = val ((s.data.toList.drop 1).take (k - 1)))) (fun iv _ _ => s.size - (intOf iv).toNat)
    case atStart => exact ⟨1, 0, by omega, by omega, rfl, rfl, by omega, by rw [Nat.sub_self, List.take_zero]; rfl⟩
    case round =>
      obtain ⟨k, m, hk, ho, rfl, rfl, hm, HW⟩ := hrel
      by_cases hlt : k < s.size
      · have hd := isD_lt (T3.out k hlt ho)
        have hv := T4.out k hlt ho
        rw [← HW.out] at hv
        have hle := T6.out (k + 1 - 1)
        rw [hv] at hle
        obtain ⟨d, hdd⟩ : ∃ d : Nat, d = s[k].toNat - 48 := ⟨_, rfl⟩
        have hd1 : ((s[k].toNat : Int) - 48) = (d : Int) := by omega
        have hd9 : d ≤ 9 := by omega
        rw [← hdd] at hv hle
        have HVV := Lib.hid hv
        have HLE := Lib.hid hle
        have hb1 : decide ((d : Int) < 0) = false := decide_eq_false (by omega)
        have hb2 : decide ((9 : Int) < d) = false := decide_eq_false (by omega)
        have htest := tdiv_test (n := -(m : Int)) (d := (d : Int)) (by omega) (by omega)
        have hrng := tdiv_rng (d := (d : Int)) (by omega) (by omega)
        have wc := IntWalk.i64_in ((s[k].toNat : Int)) ⟨by omega, by omega⟩
        have wd := IntWalk.i64_in (d : Int) ⟨by omega, by omega⟩
        have ww := IntWalk.i64_in (-9223372036854775808 + (d : Int)) ⟨by omega, by omega⟩
        clear hd hv hle hdd
        by_cases hbig : 10 * m + d ≤ 9223372036854775808
        · rw [decide_eq_false (p := -(m : Int) * 10 - (d : Int) < -9223372036854775808) (by omega)] at htest
          have w2 := IntWalk.i64_in (-(m : Int) * 10) ⟨by omega, by omega⟩
          have w3 := IntWalk.i64_in (-(m : Int) * 10 - (d : Int)) ⟨by omega, by omega⟩
          obtain ⟨Q, hQ⟩ : ∃ Q, Q = (-9223372036854775808 + (d : Int)).tdiv 10 := ⟨_, rfl⟩
          rw [← hQ] at htest hrng
          have hQs := hQ.symm
          have wQ := IntWalk.i64_in Q ⟨by omega, by omega⟩
          clear hQ hrng
          go_wp2_with fail
          all_goals go_round
          case rel => exact ⟨k + 1, 10 * m + d, by omega, by omega, by go_num, by go_num, hbig, by show _ = _; rw [HVV.out]⟩
          case measure => simp [intOf] <;> omega
        · rw [decide_eq_true (p := -(m : Int) * 10 - (d : Int) < -9223372036854775808) (by omega)] at htest
          obtain ⟨Q, hQ⟩ : ∃ Q, Q = (-9223372036854775808 + (d : Int)).tdiv 10 := ⟨_, rfl⟩
          rw [← hQ] at htest hrng
          have hQs := hQ.symm
          have wQ := IntWalk.i64_in Q ⟨by omega, by omega⟩
          clear hQ hrng
          obtain ⟨hN1, hN2⟩ := HN.out (by have := HLE.out; omega)
          have HN1 := Lib.hid hN1
          have HN2 := Lib.hid hN2
          clear hN1 hN2
          go_wp2_with fail
          go_ret2
          exact ⟨by rw [HN1.out, HN2.out]; rfl, rfl⟩
      · have hall := HW.out
        rw [show k = s.size by omega, T5.out] at hall
        obtain ⟨hR1, hR2⟩ := HR.out (by omega)
        have HN1 := Lib.hid hR1
        have HN2 := Lib.hid (show V = -(m : Int) by rw [hR2, hall])
        clear hR1 hR2 hall
        go_wp2_with fail
        go_ret2
        exact ⟨by rw [HN1.out, HN2.out]; rfl, rfl⟩
  · have hT := smT_pos z h hz
    have HR := Lib.hid (show z.natAbs < 9223372036854775808 → inI z = true ∧ smV z = (z.natAbs : Int) from fun q => by
      have := inI_of.2 (show -9223372036854775808 ≤ z ∧ z ≤ 9223372036854775807 by omega)
      exact ⟨this, by unfold smV; rw [this, if_pos rfl]; omega⟩)
    have HN := Lib.hid (show 9223372036854775808 ≤ z.natAbs → inI z = false ∧ smV z = 0 from fun q => by
      have := inI_no (z := z) (by omega)
      exact ⟨this, by unfold smV; rw [this]; rfl⟩)
    obtain ⟨a, ha⟩ : ∃ a, a = z.natAbs := ⟨_, rfl⟩
    rw [← ha] at hT HR HN
    obtain ⟨I, hI⟩ : ∃ I, I = inI z := ⟨_, rfl⟩
    obtain ⟨V, hV⟩ : ∃ V, V = smV z := ⟨_, rfl⟩
    rw [← hI, ← hV] at HR HN ⊢
    obtain ⟨s, hs⟩ : ∃ s, s = zS z := ⟨_, rfl⟩
    rw [← hs] at hf hT ⊢
    obtain ⟨h0, h1, h2, h3, h4⟩ := hf
    rw [decide_eq_false h] at h2
    obtain ⟨t1, t2, t3, t4, t5, t6⟩ := hT
    have T3 := Lib.hid t3
    have T4 := Lib.hid t4
    have T5 := Lib.hid t5
    have T6 := Lib.hid t6
    have hp : (0 : Int) < s.size := by omega
    have hq : ((0 : Int) == s.size) = false := by rw [beq_eq_false_iff_ne]; omega
    clear hs hz h3 h4 hI hV ha h t3 t4 t5 t6
    go_enter Tryz.func21, Tryz.ntmps21
    go_wp2_with fail
    go_loop [5, 7, 8] (fun iv nv _ => ∃ k m : Nat, k ≤ s.size ∧ 0 ≤ k ∧ iv = .int .i64 k ∧ nv = .int .i64 (-(m : Int)) ∧ m ≤ 9223372036854775808 ∧ Hid (m = val ((s.data.toList.drop 0).take (k - 0)))) (fun iv _ _ => s.size - (intOf iv).toNat)
    case atStart => exact ⟨0, 0, by omega, by omega, rfl, rfl, by omega, by rw [Nat.sub_self, List.take_zero]; rfl⟩
    case round =>
      obtain ⟨k, m, hk, ho, rfl, rfl, hm, HW⟩ := hrel
      by_cases hlt : k < s.size
      · have hd := isD_lt (T3.out k hlt ho)
        have hv := T4.out k hlt ho
        rw [← HW.out] at hv
        have hle := T6.out (k + 1 - 0)
        rw [hv] at hle
        obtain ⟨d, hdd⟩ : ∃ d : Nat, d = s[k].toNat - 48 := ⟨_, rfl⟩
        have hd1 : ((s[k].toNat : Int) - 48) = (d : Int) := by omega
        have hd9 : d ≤ 9 := by omega
        rw [← hdd] at hv hle
        have HVV := Lib.hid hv
        have HLE := Lib.hid hle
        have hb1 : decide ((d : Int) < 0) = false := decide_eq_false (by omega)
        have hb2 : decide ((9 : Int) < d) = false := decide_eq_false (by omega)
        have htest := tdiv_test (n := -(m : Int)) (d := (d : Int)) (by omega) (by omega)
        have hrng := tdiv_rng (d := (d : Int)) (by omega) (by omega)
        have wc := IntWalk.i64_in ((s[k].toNat : Int)) ⟨by omega, by omega⟩
        have wd := IntWalk.i64_in (d : Int) ⟨by omega, by omega⟩
        have ww := IntWalk.i64_in (-9223372036854775808 + (d : Int)) ⟨by omega, by omega⟩
        clear hd hv hle hdd
        by_cases hbig : 10 * m + d ≤ 9223372036854775808
        · rw [decide_eq_false (p := -(m : Int) * 10 - (d : Int) < -9223372036854775808) (by omega)] at htest
          have w2 := IntWalk.i64_in (-(m : Int) * 10) ⟨by omega, by omega⟩
          have w3 := IntWalk.i64_in (-(m : Int) * 10 - (d : Int)) ⟨by omega, by omega⟩
          obtain ⟨Q, hQ⟩ : ∃ Q, Q = (-9223372036854775808 + (d : Int)).tdiv 10 := ⟨_, rfl⟩
          rw [← hQ] at htest hrng
          have hQs := hQ.symm
          have wQ := IntWalk.i64_in Q ⟨by omega, by omega⟩
          clear hQ hrng
          go_wp2_with fail
          all_goals go_round
          case rel => exact ⟨k + 1, 10 * m + d, by omega, by omega, by go_num, by go_num, hbig, by show _ = _; rw [HVV.out]⟩
          case measure => simp [intOf] <;> omega
        · rw [decide_eq_true (p := -(m : Int) * 10 - (d : Int) < -9223372036854775808) (by omega)] at htest
          obtain ⟨Q, hQ⟩ : ∃ Q, Q = (-9223372036854775808 + (d : Int)).tdiv 10 := ⟨_, rfl⟩
          rw [← hQ] at htest hrng
          have hQs := hQ.symm
          have wQ := IntWalk.i64_in Q ⟨by omega, by omega⟩
          clear hQ hrng
          obtain ⟨hN1, hN2⟩ := HN.out (by have := HLE.out; omega)
          have HN1 := Lib.hid hN1
          have HN2 := Lib.hid hN2
          clear hN1 hN2
          go_wp2_with fail
          go_ret2
          exact ⟨by rw [HN1.out, HN2.out]; rfl, rfl⟩
      · have hall := HW.out
        rw [show k = s.size by omega, Nat.sub_zero] at hall
        have h5 := T5.out
        rw [Nat.sub_zero] at h5
        rw [h5] at hall
        by_cases hmin : m = 9223372036854775808
        · obtain ⟨hN1, hN2⟩ := HN.out (by omega)
          have HN1 := Lib.hid hN1
          have HN2 := Lib.hid hN2
          have he : (-(m : Int) == -9223372036854775808) = true := by rw [beq_iff_eq]; omega
          clear hN1 hN2 hall h5 hmin
          go_wp2_with fail
          go_ret2
          exact ⟨by rw [HN1.out, HN2.out]; rfl, rfl⟩
        · obtain ⟨hR1, hR2⟩ := HR.out (by omega)
          have HN1 := Lib.hid hR1
          have HN2 := Lib.hid (show V = (m : Int) by rw [hR2, hall])
          have he : (-(m : Int) == -9223372036854775808) = false := by rw [beq_eq_false_iff_ne]; omega
          have w4 := IntWalk.i64_in (m : Int) ⟨by omega, by omega⟩
          clear hR1 hR2 hall h5 hmin
          go_wp2_with fail
          go_ret2
          exact ⟨by rw [HN1.out, HN2.out]; rfl, rfl⟩
end Go.Proofs.YtjebddpapbopnaaGreatDoor
