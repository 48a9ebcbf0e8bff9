/-
  The reference's integer.
-/
import Derived.Test.YtkpaopfdnfgjeaaGreatDoorWRead
import Derived.Test.YtkpaopfdnfgjeaaGreatDoorWWord
import Derived.RegionTactic
import Derived.Deep.Cut
namespace Go.Proofs.YtkpaopfdnfgjeaaGreatDoor
open Go.RowKit

theorem wlen_list (s : ByteArray) : s.data.toList.length = s.size := (Lib.size_eq s).symm
theorem wat_list (s : ByteArray) (k : Nat) (h : k < s.size) : s.data.toList[k]'(by rw [wlen_list]; exact h) = s[k]'h := by simp; rfl
theorem wtake_all (s : ByteArray) (k : Nat) (h : k < s.size) : (s.data.toList.take (k + 1)).all isDg = ((s.data.toList.take k).all isDg && isDg (s[k]'h)) := by
  rw [List.take_succ_eq_append_getElem (by rw [wlen_list]; exact h), List.all_append, wat_list s k h]; simp
theorem wall_false {s : ByteArray} {k : Nat} (h : k < s.size) (hd : isDg (s[k]'h) = false) : s.data.toList.all isDg = false := by
  rw [← List.take_append_drop (k + 1) s.data.toList, List.all_append, wtake_all s k h, hd]; simp
set_option maxHeartbeats 1600000 in
theorem intR_nat (s : ByteArray) (w : World) (hs : s.size ≤ 9223372036854775806) (hneg : ¬ (1 < s.size ∧ s.data.toList.head? = some 45)) :
    Calls Tryz.prog 24 #[.string s] w fun e w' => e = .returned (.bool (natB s.data.toList)) ∧ w = w' := by
  by_cases h1 : 1 < s.size
  · have h0 : 0 < s.size := by omega
    have hh : s.data.toList.head? = some (s[0]'h0) := by
      rw [List.head?_eq_getElem?, List.getElem?_eq_getElem (by rw [wlen_list]; exact h0), wat_list s 0 h0]
    have hbq : (((s[0]'h0).toNat : Int) == 45) = false := by
      rw [beq_eq_false_iff_ne]
      intro e
      refine hneg ⟨h1, ?_⟩
      rw [hh]
      have : (s[0]'h0) = 45 := by rw [← UInt8.toNat_inj]; show _ = 45; omega
      rw [this]
    have HH := Lib.hid hh
    have h1i : (1 : Int) < s.size := by omega
    clear hneg hh
    go_enter Tryz.func24, Tryz.ntmps24
    go_wp2_with fail
    go_loop [3] (fun i => ∃ k : Nat, k ≤ s.size ∧ i = .int .i64 k ∧ Hid ((s.data.toList.take k).all isDg = true)) (fun i => s.size - (intOf i).toNat)
    case atStart => exact ⟨0, Nat.zero_le _, rfl, rfl⟩
    case round =>
      obtain ⟨k, hk, rfl, HA⟩ := hrel
      by_cases hlt : k < s.size
      · have hta := wtake_all s k hlt
        cases hd : isDg (s[k]'hlt) with
        | true =>
          have h1 := isDg_bd hd
          have HT := Lib.hid hta
          have HD := Lib.hid hd
          have g1 : 48 ≤ (s[k].toNat : Int) := by omega
          have g2 : (s[k].toNat : Int) ≤ 57 := by omega
          clear hta hd h1
          go_wp2
          all_goals go_round
          case rel => exact ⟨k + 1, by omega, by go_num, by show _ = true; rw [HT.out, HA.out, HD.out]; rfl⟩
          case measure => simp [intOf]; omega
        | false =>
          have HF := Lib.hid (natB_no (wall_false hlt hd))
          have h1 : (s[k].toNat : Int) < 48 ∨ (57 : Int) < s[k].toNat := by simp [isDg] at hd; omega
          clear hd hta
          rcases h1 with h1 | h1
          · go_wp2
            go_ret
            exact ⟨by rw [HF.out]; rfl, rfl⟩
          · go_wp2
            go_ret
            exact ⟨by rw [HF.out]; rfl, rfl⟩
      · obtain rfl : k = s.size := by omega
        have hall := HA.out
        rw [List.take_of_length_le (by rw [wlen_list]; exact Nat.le_refl _)] at hall
        have hnb := natB_of hall
        rw [wlen_list] at hnb
        rw [HH.out] at hnb
        by_cases h48 : (s[0]'h0) = 48
        · have HN := Lib.hid (show natB s.data.toList = false by rw [hnb, h48]; simp; omega)
          have hc48 : (((s[0]'h0).toNat : Int) != 48) = false := by rw [h48]; rfl
          have hsz1 : ((s.size : Int) == 1) = false := by rw [beq_eq_false_iff_ne]; omega
          clear hnb hall h48
          go_wp2
          go_ret
          exact ⟨by rw [HN.out]; rfl, rfl⟩
        · have HN := Lib.hid (show natB s.data.toList = true by rw [hnb]; simp [h48]; omega)
          have hc48 : (((s[0]'h0).toNat : Int) != 48) = true := by
            rw [bne_iff_ne]; intro e; apply h48; rw [← UInt8.toNat_inj]; show _ = 48; omega
          have hsz1 : ((s.size : Int) == 1) = false := by rw [beq_eq_false_iff_ne]; omega
          clear hnb hall h48
          go_wp2
          go_ret
          exact ⟨by rw [HN.out]; rfl, rfl⟩
  · have h1i : ¬ (1 : Int) < s.size := by omega
    clear hneg
    go_enter Tryz.func24, Tryz.ntmps24
    go_wp2_with fail
    go_loop [3] (fun i => ∃ k : Nat, k ≤ s.size ∧ i = .int .i64 k ∧ Hid ((s.data.toList.take k).all isDg = true)) (fun i => s.size - (intOf i).toNat)
    case atStart => exact ⟨0, Nat.zero_le _, rfl, rfl⟩
    case round =>
      obtain ⟨k, hk, rfl, HA⟩ := hrel
      by_cases hlt : k < s.size
      · have hta := wtake_all s k hlt
        cases hd : isDg (s[k]'hlt) with
        | true =>
          have h1 := isDg_bd hd
          have HT := Lib.hid hta
          have HD := Lib.hid hd
          have g1 : 48 ≤ (s[k].toNat : Int) := by omega
          have g2 : (s[k].toNat : Int) ≤ 57 := by omega
          clear hta hd h1
          go_wp2
          all_goals go_round
          case rel => exact ⟨k + 1, by omega, by go_num, by show _ = true; rw [HT.out, HA.out, HD.out]; rfl⟩
          case measure => simp [intOf]; omega
        | false =>
          have HF := Lib.hid (natB_no (wall_false hlt hd))
          have h1 : (s[k].toNat : Int) < 48 ∨ (57 : Int) < s[k].toNat := by simp [isDg] at hd; omega
          clear hd hta
          rcases h1 with h1 | h1
          · go_wp2
            go_ret
            exact ⟨by rw [HF.out]; rfl, rfl⟩
          · go_wp2
            go_ret
            exact ⟨by rw [HF.out]; rfl, rfl⟩
      · obtain rfl : k = s.size := by omega
        have hall := HA.out
        rw [List.take_of_length_le (by rw [wlen_list]; exact Nat.le_refl _)] at hall
        have hnb := natB_of hall
        rw [wlen_list] at hnb
        by_cases he : s.size = 1
        · have HN := Lib.hid (show natB s.data.toList = true by rw [hnb, he]; rfl)
          have hsz1 : ((s.size : Int) == 1) = true := by rw [beq_iff_eq]; omega
          clear hnb hall
          go_wp2
          go_ret
          exact ⟨by rw [HN.out]; rfl, rfl⟩
        · have HN := Lib.hid (show natB s.data.toList = false by rw [hnb]; simp; omega)
          have hsz1 : ((s.size : Int) == 1) = false := by rw [beq_eq_false_iff_ne]; omega
          clear hnb hall
          go_wp2
          go_ret
          exact ⟨by rw [HN.out]; rfl, rfl⟩

theorem wext_list (s : ByteArray) {c : UInt8} {r : List UInt8} (hl : s.data.toList = c :: r) : (s.extract 1 s.size).data.toList = r := by
  have h : (s.extract 1 s.size).data = s.data.extract 1 s.size := ByteArray.data_extract ..
  rw [h, Array.toList_extract, hl]
  have hs : s.size = (c :: r).length := by rw [← hl, wlen_list]
  rw [hs]; simp [List.extract_eq_take_drop]
set_option maxHeartbeats 1600000 in
theorem intR_neg (s : ByteArray) (r : List UInt8) (w : World) (hs : s.size ≤ 9223372036854775806) (hl : s.data.toList = 45 :: r) (h1 : 1 < s.size) :
    Calls Tryz.prog 24 #[.string s] w fun e w' => e = .returned (.bool ((!(r.head? == some 48)) && natB r)) ∧ w = w' := by
  have h0 : 0 < s.size := by omega
  have hq : (((s[0]'h0).toNat : Int) == 45) = true := by
    have := wat_list s 0 h0
    rw [beq_iff_eq, ← this]
    simp only [hl, List.getElem_cons_zero]; rfl
  have h1i : (1 : Int) < s.size := by omega
  have HE := Lib.hid (wext_list s hl)
  have hrs : r.length + 1 = s.size := by rw [← wlen_list, hl]; rfl
  clear hl
  go_enter Tryz.func24, Tryz.ntmps24
  go_upto_region 2 with (fail)
  go_cut [0] from 4 (fun sv wx => ∃ t : ByteArray, sv = .string t ∧ Hid (t.data.toList = r) ∧ w = wx)
  case first =>
    go_wp2_with fail
    go_meet
    exact ⟨_, rfl, HE, rfl⟩
  case rest =>
    obtain ⟨t, rfl, HT, rfl⟩ := hcut
    have htl : r.length = t.size := by rw [← wlen_list, HT.out]
    have ht0 : 0 < t.size := by omega
    have hts : t.size ≤ 9223372036854775806 := by omega
    have hh : r.head? = some (t[0]'ht0) := by
      rw [← HT.out, List.head?_eq_getElem?, List.getElem?_eq_getElem (by rw [wlen_list]; exact ht0), wat_list t 0 ht0]
    clear HE hq h1i h1 h0 hrs htl
    by_cases h48 : (t[0]'ht0) = 48
    · have HN := Lib.hid (show ((!(r.head? == some 48)) && natB r) = false by rw [hh, h48]; rfl)
      have hc48 : (((t[0]'ht0).toNat : Int) == 48) = true := by rw [h48]; rfl
      clear h48 hh
      go_wp2_with fail
      go_ret
      exact ⟨by rw [HN.out]; rfl, rfl⟩
    · have hn1 : ((!(r.head? == some 48)) && natB r) = natB r := by
        have : (r.head? == some 48) = false := by rw [hh]; simpa using h48
        rw [this]; rfl
      rw [← HT.out] at hn1
      have HM := Lib.hid (show ((!(r.head? == some 48)) && natB r) = natB t.data.toList by rw [HT.out]; rw [HT.out] at hn1; exact hn1)
      have hh2 : t.data.toList.head? = some (t[0]'ht0) := by rw [HT.out]; exact hh
      have HH := Lib.hid hh2
      have hc48 : (((t[0]'ht0).toNat : Int) == 48) = false := by
        rw [beq_eq_false_iff_ne]; intro e; apply h48; rw [← UInt8.toNat_inj]; show _ = 48; omega
      have hc49 : (((t[0]'ht0).toNat : Int) != 48) = true := by rw [bne, hc48]; rfl
      have H48 := Lib.hid h48
      clear hh hn1 hh2 HT h48
      go_wp2_with fail
      go_loop [3] (fun i => ∃ k : Nat, k ≤ t.size ∧ i = .int .i64 k ∧ Hid ((t.data.toList.take k).all isDg = true)) (fun i => t.size - (intOf i).toNat)
      case atStart => exact ⟨0, Nat.zero_le _, rfl, rfl⟩
      case round =>
        obtain ⟨k, hk, rfl, HA⟩ := hrel
        by_cases hlt : k < t.size
        · have hta := wtake_all t k hlt
          cases hd : isDg (t[k]'hlt) with
          | true =>
            have h1 := isDg_bd hd
            have HTT := Lib.hid hta
            have HD := Lib.hid hd
            have g1 : 48 ≤ (t[k].toNat : Int) := by omega
            have g2 : (t[k].toNat : Int) ≤ 57 := by omega
            clear hta hd h1
            go_wp2
            all_goals go_round
            case rel => exact ⟨k + 1, by omega, by go_num, by show _ = true; rw [HTT.out, HA.out, HD.out]; rfl⟩
            case measure => simp [intOf]; omega
          | false =>
            have HF := Lib.hid (natB_no (wall_false hlt hd))
            have h1 : (t[k].toNat : Int) < 48 ∨ (57 : Int) < t[k].toNat := by simp [isDg] at hd; omega
            clear hd hta
            rcases h1 with h1 | h1
            · go_wp2
              go_ret
              exact ⟨by rw [HM.out, HF.out]; rfl, rfl⟩
            · go_wp2
              go_ret
              exact ⟨by rw [HM.out, HF.out]; rfl, rfl⟩
        · obtain rfl : k = t.size := by omega
          have hall := HA.out
          rw [List.take_of_length_le (by rw [wlen_list]; exact Nat.le_refl _)] at hall
          have hnb := natB_of hall
          rw [wlen_list] at hnb
          rw [HH.out] at hnb
          have HN := Lib.hid (show natB t.data.toList = true by rw [hnb]; have := H48.out; simp [this]; omega)
          clear hnb hall
          by_cases hz : t.size = 1
          · have hsz1 : ((t.size : Int) == 1) = true := by rw [beq_iff_eq]; omega
            go_wp2
            go_ret
            exact ⟨by rw [HM.out, HN.out]; rfl, rfl⟩
          · have hsz1 : ((t.size : Int) == 1) = false := by rw [beq_eq_false_iff_ne]; omega
            have hsz2 : (1 : Int) < t.size := by omega
            go_wp2
            go_ret
            exact ⟨by rw [HM.out, HN.out]; rfl, rfl⟩
theorem intR_any (s : ByteArray) (w : World) (hs : s.size ≤ 9223372036854775806) :
    Calls Tryz.prog 24 #[.string s] w fun e w' => e = .returned (.bool (canB s.data.toList)) ∧ w = w' := by
  by_cases h : 1 < s.size ∧ s.data.toList.head? = some 45
  · obtain ⟨h1, h2⟩ := h
    cases hl : s.data.toList with
    | nil => rw [hl] at h2; cases h2
    | cons c r =>
      rw [hl, List.head?_cons, Option.some.injEq] at h2
      subst h2
      have e : canB (45 :: r) = ((!(r.head? == some 48)) && natB r) := by
        unfold canB; rw [if_pos ⟨by rw [← hl, wlen_list]; exact h1, rfl⟩]; rfl
      rw [e]
      exact intR_neg s r w hs hl h1
  · have e : canB s.data.toList = natB s.data.toList := by unfold canB; rw [if_neg (by rw [wlen_list]; exact h)]
    rw [e]
    exact intR_nat s w hs h
end Go.Proofs.YtkpaopfdnfgjeaaGreatDoor
