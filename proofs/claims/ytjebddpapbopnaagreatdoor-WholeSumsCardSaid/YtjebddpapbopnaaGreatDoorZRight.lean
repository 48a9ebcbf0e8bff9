/-
  The reference of package whole: Canonical, digits of any text, Right, Of.
-/
import Derived.Test.YtjebddpapbopnaaGreatDoorZBox
namespace Go.Proofs.YtjebddpapbopnaaGreatDoor
open Go.RowKit

theorem canon_no {m : ByteArray} (h : m.data.toList.all isD = false) : canonL m.data.toList = false := by unfold canonL; rw [h, Bool.and_false]
theorem canon_nil {m : ByteArray} (h : m.size = 0) : canonL m.data.toList = false := by
  have := len_list m
  rw [h] at this
  rw [List.length_eq_zero_iff.1 this]; rfl
theorem canon_hd {m : ByteArray} (h0 : 0 < m.size) (h : m.data.toList.all isD = true) : canonL m.data.toList = (!(((m[0]'h0).toNat : Int) == 48) || decide (m.size = 1)) := by
  unfold canonL
  rw [h, Bool.and_true, hd1 h0]
  have hl := len_list m
  have hg := at_list m 0 h0
  cases hb : (((m[0]'h0).toNat : Int) == 48) with
  | false => rw [show (((m[0]'h0).toNat : Int) != 48) = true by rw [bne, hb]; rfl]; simp
  | true =>
    rw [show (((m[0]'h0).toNat : Int) != 48) = false by rw [bne, hb]; rfl]
    have h48 : m[0] = 48 := by have := beq_iff_eq.1 hb; exact UInt8.toNat_inj.1 (by show _ = 48; omega)
    rw [Bool.or_false, Bool.not_true, Bool.false_or, Bool.eq_iff_iff, beq_iff_eq, decide_eq_true_iff, tl]
    constructor
    · intro q; rw [q] at hl; simp at hl; omega
    · intro q
      cases hm : m.data.toList with
      | nil => rw [hm] at hl; simp at hl; omega
      | cons c l =>
        rw [hm] at hl
        have : l = [] := by cases l with
          | nil => rfl
          | cons d l => simp at hl; omega
        have hcc : c = m[0] := by rw [← hg]; simp [hm]
        rw [this, hcc, h48]
def rgt (s : ByteArray) : Bool := zCan s && decide ((magB s).size ≤ 400)
theorem chk_rgt (s : ByteArray) : chkZ s = if rgt s = true then 0 else 2 := by
  unfold chkZ rgt
  by_cases h : zCan s = true ∧ (magB s).size ≤ 400
  · rw [if_pos h, if_pos (by rw [h.1, decide_eq_true h.2]; rfl)]
  · rw [if_neg h, if_neg (by intro q; rw [Bool.and_eq_true, decide_eq_true_iff] at q; exact h q)]
theorem n63 {n : Int} (h1 : -9223372036854775808 ≤ n) (h2 : n ≤ 9223372036854775807) : (str n.natAbs).size ≤ 1000000 := Nat.le_trans (str_big (n := 19) (by omega) (by decide)) (by decide)
set_option maxHeartbeats 6400000 in
set_option maxRecDepth 100000 in
theorem canR_any (s : ByteArray) (w : World) (hs : s.size ≤ 1000001) :
    Calls Tryz.prog 49 #[.string s] w fun e w' => e = .returned (.bool (zCan s)) ∧ w = w' := by
  have hml := magB_len (s := s)
  have hV : zCan s = (canonL (magB s).data.toList && !(negB s && ((magB s).toList == [48]))) := rfl
  have hmm : magB s = if negB s = true then s.extract 1 s.size else s := rfl
  obtain ⟨V, hVV⟩ : ∃ V, V = zCan s := ⟨_, rfl⟩
  obtain ⟨m, hm⟩ : ∃ m, m = magB s := ⟨_, rfl⟩
  rw [← hm] at hml hmm
  rw [← hVV, ← hm] at hV
  rw [← hVV]
  cases hN : negB s with
  | true =>
    rw [hN] at hV hmm
    rw [if_pos rfl] at hmm
    rw [Bool.true_and] at hV
    have h0' : 0 < s.size := by
      rcases Nat.eq_zero_or_pos s.size with q | q
      · rw [negB_nil q] at hN; cases hN
      · exact q
    have hp : (0 : Int) < s.size := by omega
    have h1' : 1 ≤ s.size := h0'
    have hat := negB_at h0'
    rw [hN] at hat
    have hb := hat.symm
    have HM := Lib.hid hmm
    clear hm hVV hN hat hmm
    cases hz : (m.toList == [48]) with
    | true =>
      have hz2 : ((s.extract 1 s.size).toList == [48]) = true := by rw [← HM.out]; exact hz
      have HV := Lib.hid (show V = false by rw [hV, hz]; simp)
      clear hz hV HM
      go_enter Tryz.func49, Tryz.ntmps49
      go_wp2_with fail
      go_ret
      exact ⟨by rw [HV.out]; rfl, rfl⟩
    | false =>
      have hz2 : ((s.extract 1 s.size).toList == [48]) = false := by rw [← HM.out]; exact hz
      rw [hz, Bool.not_false, Bool.and_true] at hV
      clear hz
      go_enter Tryz.func49, Tryz.ntmps49
      go_wp2_with fail
      rw [← HM.out]
      go_loop [4] (fun iv => ∃ k : Nat, iv = .int .i64 k ∧ k ≤ m.size ∧ Hid ((m.data.toList.take k).all isD = true)) (fun iv => m.size - (intOf iv).toNat)
      case atStart => exact ⟨0, rfl, Nat.zero_le _, by simp [Hid]⟩
      case round =>
        obtain ⟨k, rfl, hk, HA⟩ := hrel
        by_cases hlt : k < m.size
        · cases hd : isD (m[k]'hlt) with
          | true =>
            have hd2 := isD_lt hd
            have hb1 : decide (((m[k]'hlt).toNat : Int) < 48) = false := decide_eq_false (by omega)
            have hb2 : decide ((57 : Int) < ((m[k]'hlt).toNat : Int)) = false := decide_eq_false (by omega)
            have HA2 := Lib.hid (all_take_next hlt HA.out hd)
            clear hd hd2
            go_wp2_with fail
            all_goals go_round
            case rel => exact ⟨k + 1, by go_num, by omega, HA2⟩
            case measure => simp [intOf] <;> omega
          | false =>
            have HV := Lib.hid (show V = false by rw [hV, canon_no (not_all hlt hd)])
            rcases isD_no hd with hd2 | ⟨hd2, hd3⟩
            · have hb1 : decide (((m[k]'hlt).toNat : Int) < 48) = true := decide_eq_true (by omega)
              clear hd hd2 hV
              go_wp2_with fail
              go_ret
              exact ⟨by rw [HV.out]; rfl, rfl⟩
            · have hb1 : decide (((m[k]'hlt).toNat : Int) < 48) = false := decide_eq_false (by omega)
              have hb2 : decide ((57 : Int) < ((m[k]'hlt).toNat : Int)) = true := decide_eq_true (by omega)
              clear hd hd2 hd3 hV
              go_wp2_with fail
              go_ret
              exact ⟨by rw [HV.out]; rfl, rfl⟩
        · have hall : m.data.toList.all isD = true := by
            have := HA.out
            rw [List.take_of_length_le (by rw [len_list]; omega)] at this; exact this
          by_cases hm0 : m.size = 0
          · have hgt : decide ((0 : Int) < m.size) = false := decide_eq_false (by omega)
            have HV := Lib.hid (show V = false by rw [hV, canon_nil hm0])
            clear hall hV
            go_wp2_with fail
            go_ret
            exact ⟨by rw [HV.out]; rfl, rfl⟩
          · have hmp : 0 < m.size := by omega
            have hmi : (0 : Int) < m.size := by omega
            have hgt : decide ((0 : Int) < m.size) = true := decide_eq_true hmi
            have hcv := canon_hd hmp hall
            cases hb0 : (((m[0]'hmp).toNat : Int) == 48) with
            | false =>
              have hne : (((m[0]'hmp).toNat : Int) != 48) = true := by rw [bne, hb0]; rfl
              have HV := Lib.hid (show V = true by rw [hV, hcv, hb0]; rfl)
              clear hall hV hcv
              go_wp2_with fail
              go_ret
              exact ⟨by rw [HV.out]; rfl, rfl⟩
            | true =>
              have hne : (((m[0]'hmp).toNat : Int) != 48) = false := by rw [bne, hb0]; rfl
              by_cases h1 : m.size = 1
              · have he : ((m.size : Int) == 1) = true := by rw [beq_iff_eq]; omega
                have HV := Lib.hid (show V = true by rw [hV, hcv, hb0, decide_eq_true h1]; rfl)
                clear hall hV hcv
                go_wp2_with fail
                go_ret
                exact ⟨by rw [HV.out]; rfl, rfl⟩
              · have he : ((m.size : Int) == 1) = false := by rw [beq_eq_false_iff_ne]; omega
                have HV := Lib.hid (show V = false by rw [hV, hcv, hb0, decide_eq_false h1]; rfl)
                clear hall hV hcv
                go_wp2_with fail
                go_ret
                exact ⟨by rw [HV.out]; rfl, rfl⟩
  | false =>
    rw [hN] at hV hmm
    rw [if_neg (by decide)] at hmm
    rw [Bool.false_and, Bool.not_false, Bool.and_true] at hV
    subst hmm
    clear hVV hm
    by_cases hs0 : m.size = 0
    · have hp : ¬ (0 : Int) < m.size := by omega
      have HV := Lib.hid (show V = false by rw [hV, canon_nil hs0])
      clear hV hN
      go_enter Tryz.func49, Tryz.ntmps49
      go_wp2_with fail
      refine wp_loop_rounds 1 ?_
      rw [rounds_succ]
      go_wp2_with fail
      go_ret
      exact ⟨by rw [HV.out]; rfl, rfl⟩
    · have h0' : 0 < m.size := by omega
      have hp : (0 : Int) < m.size := by omega
      have hat := negB_at h0'
      rw [hN] at hat
      have hb := hat.symm
      clear hat
      go_enter Tryz.func49, Tryz.ntmps49
      go_wp2_with fail
      go_loop [4] (fun iv => ∃ k : Nat, iv = .int .i64 k ∧ k ≤ m.size ∧ Hid ((m.data.toList.take k).all isD = true)) (fun iv => m.size - (intOf iv).toNat)
      case atStart => exact ⟨0, rfl, Nat.zero_le _, by simp [Hid]⟩
      case round =>
        obtain ⟨k, rfl, hk, HA⟩ := hrel
        by_cases hlt : k < m.size
        · cases hd : isD (m[k]'hlt) with
          | true =>
            have hd2 := isD_lt hd
            have hb1 : decide (((m[k]'hlt).toNat : Int) < 48) = false := decide_eq_false (by omega)
            have hb2 : decide ((57 : Int) < ((m[k]'hlt).toNat : Int)) = false := decide_eq_false (by omega)
            have HA2 := Lib.hid (all_take_next hlt HA.out hd)
            clear hd hd2
            go_wp2_with fail
            all_goals go_round
            case rel => exact ⟨k + 1, by go_num, by omega, HA2⟩
            case measure => simp [intOf] <;> omega
          | false =>
            have HV := Lib.hid (show V = false by rw [hV, canon_no (not_all hlt hd)])
            rcases isD_no hd with hd2 | ⟨hd2, hd3⟩
            · have hb1 : decide (((m[k]'hlt).toNat : Int) < 48) = true := decide_eq_true (by omega)
              clear hd hd2 hV
              go_wp2_with fail
              go_ret
              exact ⟨by rw [HV.out]; rfl, rfl⟩
            · have hb1 : decide (((m[k]'hlt).toNat : Int) < 48) = false := decide_eq_false (by omega)
              have hb2 : decide ((57 : Int) < ((m[k]'hlt).toNat : Int)) = true := decide_eq_true (by omega)
              clear hd hd2 hd3 hV
              go_wp2_with fail
              go_ret
              exact ⟨by rw [HV.out]; rfl, rfl⟩
        · have hall : m.data.toList.all isD = true := by
            have := HA.out
            rw [List.take_of_length_le (by rw [len_list]; omega)] at this; exact this
          by_cases hm0 : m.size = 0
          · exact absurd hm0 hs0
          · have hmp : 0 < m.size := by omega
            have hmi : (0 : Int) < m.size := by omega
            have hgt : decide ((0 : Int) < m.size) = true := decide_eq_true hmi
            have hcv := canon_hd hmp hall
            cases hb0 : (((m[0]'hmp).toNat : Int) == 48) with
            | false =>
              have hne : (((m[0]'hmp).toNat : Int) != 48) = true := by rw [bne, hb0]; rfl
              have HV := Lib.hid (show V = true by rw [hV, hcv, hb0]; rfl)
              clear hall hV hcv
              go_wp2_with fail
              go_ret
              exact ⟨by rw [HV.out]; rfl, rfl⟩
            | true =>
              have hne : (((m[0]'hmp).toNat : Int) != 48) = false := by rw [bne, hb0]; rfl
              by_cases h1 : m.size = 1
              · have he : ((m.size : Int) == 1) = true := by rw [beq_iff_eq]; omega
                have HV := Lib.hid (show V = true by rw [hV, hcv, hb0, decide_eq_true h1]; rfl)
                clear hall hV hcv
                go_wp2_with fail
                go_ret
                exact ⟨by rw [HV.out]; rfl, rfl⟩
              · have he : ((m.size : Int) == 1) = false := by rw [beq_eq_false_iff_ne]; omega
                have HV := Lib.hid (show V = false by rw [hV, hcv, hb0, decide_eq_false h1]; rfl)
                clear hall hV hcv
                go_wp2_with fail
                go_ret
                exact ⟨by rw [HV.out]; rfl, rfl⟩
set_option maxHeartbeats 800000 in
theorem digRG_any (s : ByteArray) (w : World) (hs : s.size ≤ 1000001) :
    Calls Tryz.prog 50 #[.string s] w fun e w' => e = .returned (.string (magB s)) ∧ w = w' := by
  by_cases h0 : s.size = 0
  · have hn := negB_nil h0
    have HM := Lib.hid (show magB s = s by unfold magB; rw [hn]; rfl)
    have hp : ¬ (0 : Int) < s.size := by omega
    clear hn h0
    go_enter Tryz.func50, Tryz.ntmps50
    go_wp2_with fail
    go_ret
    exact ⟨by rw [HM.out]; rfl, rfl⟩
  · have h0' : 0 < s.size := by omega
    have hn := negB_at h0'
    have hp : (0 : Int) < s.size := by omega
    have h1' : 1 ≤ s.size := h0'
    cases hb : (((s[0]'h0').toNat : Int) == 45) with
    | true =>
      rw [hb] at hn
      have HM := Lib.hid (show magB s = s.extract 1 s.size by unfold magB; rw [hn]; rfl)
      clear hn h0
      go_enter Tryz.func50, Tryz.ntmps50
      go_wp2_with fail
      go_ret
      exact ⟨by rw [HM.out]; rfl, rfl⟩
    | false =>
      rw [hb] at hn
      have HM := Lib.hid (show magB s = s by unfold magB; rw [hn]; rfl)
      clear hn h0
      go_enter Tryz.func50, Tryz.ntmps50
      go_wp2_with fail
      go_ret
      exact ⟨by rw [HM.out]; rfl, rfl⟩
set_option maxHeartbeats 800000 in
theorem rightR_any (s : ByteArray) (w : World) (hs : s.size ≤ 1000001) :
    Calls Tryz.prog 15 #[.string s] w fun e w' => e = .returned (.bool (rgt s)) ∧ Below w.heap.size w w' := by
  have HC := Lib.hid (fun wx => canR_any s wx hs)
  have HD := Lib.hid (fun wx => digRG_any s wx hs)
  have hl := magB_len (s := s)
  have hV : rgt s = (zCan s && decide ((magB s).size ≤ 400)) := rfl
  obtain ⟨c, hc⟩ : ∃ c, c = zCan s := ⟨_, rfl⟩
  obtain ⟨m, hm⟩ : ∃ m, m = magB s := ⟨_, rfl⟩
  obtain ⟨V, hVV⟩ : ∃ V, V = rgt s := ⟨_, rfl⟩
  rw [← hc] at HC hV
  rw [← hm] at HD hV hl
  rw [← hVV] at hV ⊢
  clear hc hm hVV
  cases c
  · have HV := Lib.hid (show V = false by rw [hV]; rfl)
    clear hV hl hs HD
    go_enter Tryz.func15, Tryz.ntmps15
    go_wp2_with fail
    refine (HC.out _).mono ?_
    rintro e w1 ⟨rfl, rfl⟩
    go_wp2_with fail
    go_ret
    exact ⟨by rw [HV.out]; rfl, Below.refl _ _⟩
  · by_cases h4 : m.size ≤ 400
    · have HV := Lib.hid (show V = true by rw [hV, decide_eq_true h4]; rfl)
      have hd : decide ((m.size : Int) ≤ 400) = true := decide_eq_true (by omega)
      clear hV hl hs h4
      go_enter Tryz.func15, Tryz.ntmps15
      go_wp2_with fail
      refine (HC.out _).mono ?_
      rintro e w1 ⟨rfl, rfl⟩
      go_wp2_with fail
      refine (HD.out _).mono ?_
      rintro e w2 ⟨rfl, rfl⟩
      go_wp2_with fail
      go_ret
      exact ⟨by rw [HV.out]; rfl, Below.refl _ _⟩
    · have HV := Lib.hid (show V = false by rw [hV, decide_eq_false h4]; rfl)
      have hd : decide ((m.size : Int) ≤ 400) = false := decide_eq_false (by omega)
      clear hV hl hs h4
      go_enter Tryz.func15, Tryz.ntmps15
      go_wp2_with fail
      refine (HC.out _).mono ?_
      rintro e w1 ⟨rfl, rfl⟩
      go_wp2_with fail
      refine (HD.out _).mono ?_
      rintro e w2 ⟨rfl, rfl⟩
      go_wp2_with fail
      go_ret
      exact ⟨by rw [HV.out]; rfl, Below.refl _ _⟩
set_option maxHeartbeats 400000 in
theorem ofR2_any (z : Int) (w : World) (hs : Std w) (h1 : -9223372036854775808 ≤ z) (h2 : z ≤ 9223372036854775807) :
    Calls Tryz.prog 19 #[.int .i64 z] w fun e w' => e = .returned (.string (zS z)) ∧ Below w.heap.size w w' := by
  have hi := Tryz.strconv_Itoa z h1 h2 w hs.tab
  rw [itoa_zS] at hi
  have HI := Lib.hid hi
  clear hi hs
  go_enter Tryz.func19, Tryz.ntmps19
  go_wp2_with fail
  refine HI.out.mono ?_
  rintro e w3 ⟨rfl, k, os, hw3⟩
  have hb3 : Below w.heap.size w w3 := by rw [hw3]; exact Lib.below_grow _ _ (Nat.le_refl _) _ _
  have HB := Lib.hid hb3
  clear hw3 hb3
  go_wp2_with fail
  go_ret
  exact ⟨rfl, HB.out⟩
end Go.Proofs.YtjebddpapbopnaaGreatDoor
