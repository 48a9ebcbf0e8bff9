/-
  The walks of the laws DecimalForms and DecimalLimits.
-/
import Derived.Test.YtfhmdlpjeiockaaDoorKnown
namespace Go.Proofs.YtfhmdlpjeiockaaDoor
open Go.RowKit

theorem canonR_eq {s : ByteArray} (ha : s.data.toList.all isD = true) (h1 : s.size = 1) : canonL s.data.toList = true := by
  unfold canonL; rw [ha]
  have hl := len_list s
  rw [h1] at hl
  match h : s.data.toList, hl with
  | [c], _ =>
    unfold headOk
    by_cases hc : c = 48
    · subst hc; rfl
    · simp
theorem canonR_head {s : ByteArray} (ha : s.data.toList.all isD = true) (h1 : 1 < s.size) : canonL s.data.toList = !(((s[0]'(by omega)).toNat : Int) == 48) := by
  have h := hd1 (s := s) (by omega)
  have hne : (s.toList == [48]) = false := by
    rw [tl, beq_eq_false_iff_ne]; intro e
    have := len_list s; rw [e] at this; simp at this; omega
  rw [hne, Bool.false_or] at h
  unfold canonL; rw [ha, h]; simp [bne]
theorem canonR_nil {s : ByteArray} (h1 : s.size = 0) : canonL s.data.toList = false := by
  have hl := len_list s
  rw [h1] at hl
  rw [List.eq_nil_of_length_eq_zero hl]; rfl

set_option maxHeartbeats 1600000 in
theorem canonR_any (s : ByteArray) (w : World) (hs : s.size ≤ 9223372036854775806) :
    Calls Tryd.prog 9 #[.string s] w fun e w' => e = .returned (.bool (canonL s.data.toList)) ∧ w = w' := by
  obtain ⟨c, hc⟩ : ∃ c : Bool, c = canonL s.data.toList := ⟨_, rfl⟩
  rw [← hc]
  have HC := Lib.hid hc
  clear hc
  go_enter Tryd.func9, Tryd.ntmps9
  go_wp2
  go_loop [3] (fun i => ∃ k : Nat, k ≤ s.size ∧ i = .int .i64 k ∧ Hid ((s.data.toList.take k).all isD = true)) (fun i => s.size - (intOf i).toNat)
  case atStart => exact ⟨0, Nat.zero_le _, rfl, rfl⟩
  case round =>
    obtain ⟨k, hk, rfl, HA⟩ := hrel
    by_cases hlt : k < s.size
    · have hta := take_all s k hlt
      cases hd : isD (s[k]'hlt) with
      | true =>
        have h1 := isD_lt hd
        have HT := Lib.hid hta
        have HD := Lib.hid hd
        have g1 : 48 ≤ (s[k].toNat : Int) := by omega
        have g2 : (s[k].toNat : Int) ≤ 57 := by omega
        clear hta hd h1
        go_wp2
        all_goals go_round
        case rel => exact ⟨k + 1, by omega, by go_num, by show _ = true; rw [HT.out, HA.out, HD.out]; rfl⟩
        case measure => simp [intOf] <;> omega
      | false =>
        have hf := all_take_false hlt hd
        have hcf : c = false := by rw [HC.out]; unfold canonL; rw [hf]; simp
        have h1 : (s[k].toNat : Int) < 48 ∨ (57 : Int) < s[k].toNat := by simp [isD] at hd; omega
        subst hcf
        clear hf hd hta
        rcases h1 with h1 | h1
        · go_wp2
          go_ret
          exact ⟨rfl, rfl⟩
        · go_wp2
          go_ret
          exact ⟨rfl, rfl⟩
    · have hall : s.data.toList.all isD = true := by rw [← take_all_len s k (by omega)]; exact HA
      have hks : k = s.size := by omega
      subst hks
      rcases (show s.size = 0 ∨ s.size = 1 ∨ 1 < s.size by omega) with h0 | h0 | h0
      · have hcf := HC.out
        rw [canonR_nil h0] at hcf
        subst hcf
        have b1 : ((s.size : Int) == 1) = false := by rw [h0]; rfl
        have b2 : ¬ (1 : Int) < (s.size : Int) := by omega
        clear hall h0
        go_wp2
        go_ret
        exact ⟨rfl, rfl⟩
      · have hcf := HC.out
        rw [canonR_eq hall h0] at hcf
        subst hcf
        have b1 : ((s.size : Int) == 1) = true := by rw [h0]; rfl
        clear hall h0
        go_wp2
        go_ret
        exact ⟨rfl, rfl⟩
      · have hcf := HC.out
        rw [canonR_head hall h0] at hcf
        have b1 : ((s.size : Int) == 1) = false := by rw [beq_eq_false_iff_ne]; omega
        have b2 : (1 : Int) < (s.size : Int) := by omega
        cases hz : (((s[0]'(by omega)).toNat : Int) == 48) with
        | true =>
          rw [hz] at hcf
          have hcf' : c = false := hcf
          have b3 : (((s[0]'(by omega)).toNat : Int) != 48) = false := by simp only [bne, hz]; rfl
          subst hcf'
          clear hall hcf
          go_wp2
          go_ret
          exact ⟨rfl, rfl⟩
        | false =>
          rw [hz] at hcf
          have hcf' : c = true := hcf
          have b3 : (((s[0]'(by omega)).toNat : Int) != 48) = true := by simp only [bne, hz]; rfl
          subst hcf'
          clear hall hcf
          go_wp2
          go_ret
          exact ⟨rfl, rfl⟩



end Go.Proofs.YtfhmdlpjeiockaaDoor
