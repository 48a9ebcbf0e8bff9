/-
  Texts of one seat, joined: YDig YPars.
-/
import Derived.Test.YtdgbplppabalgaaGreatDoorShelf3
import Derived.Test.YtdgbplppabalgaaGreatDoorJ15
import Derived.Test.YtdgbplppabalgaaGreatDoorJ13
import Derived.Test.YtdgbplppabalgaaGreatDoorShelf2
namespace Go.Proofs.YtdgbplppabalgaaGreatDoor
open Go.RowKit

theorem digL_false {s : ByteArray} {k : Nat} (h : k < s.size) (hd : isD (s[k]'h) = false) : digL s.data.toList = false := by unfold digL; rw [not_all h hd]; rfl
theorem digL_true {s : ByteArray} (h0 : 0 < s.size) (h : s.data.toList.all isD = true) : digL s.data.toList = true := by
  unfold digL; rw [h, Bool.true_and]
  have := len_list s
  cases hl : s.data.toList with
  | nil => rw [hl] at this; simp at this; omega
  | cons a l => rfl
theorem digL_none {s : ByteArray} (h0 : s.size = 0) : digL s.data.toList = false := by
  have := len_list s
  rw [h0] at this
  rw [List.length_eq_zero_iff.1 this]; rfl
theorem empty_tl {s : ByteArray} : s.toList.isEmpty = decide (s.size = 0) := by
  rw [tl]
  have := len_list s
  cases hl : s.data.toList with
  | nil => rw [hl] at this; rw [decide_eq_true (by simpa using this.symm)]; rfl
  | cons a l => rw [hl] at this; rw [decide_eq_false (by simp at this; omega)]; rfl
set_option maxHeartbeats 1600000 in
theorem areF_any (s : ByteArray) (w : World) (hs : s.size ≤ 1000001) :
    Calls Tryz.prog 80 #[.string s] w fun e w' => e = .returned (.bool (digL s.data.toList)) ∧ w = w' := by
  have HF := Lib.hid (fun (k : Nat) (h : k < s.size) hd => digL_false h hd)
  have HT := Lib.hid (fun h0 h => digL_true (s := s) h0 h)
  have HN := Lib.hid (fun h0 => digL_none (s := s) h0)
  obtain ⟨V, hV⟩ : ∃ V, V = digL s.data.toList := ⟨_, rfl⟩
  rw [← hV] at HF HT HN ⊢
  clear hV
  have hn1 : (s.toList == []) = decide (s.size = 0) := nil_tl
  have hn2 : s.toList.isEmpty = decide (s.size = 0) := empty_tl
  go_enter Tryz.func80, Tryz.ntmps80
  go_wp2_with fail
  go_loop [3, 6] (fun _ iv => ∃ k : Nat, iv = .int .i64 k ∧ k ≤ s.size ∧ Hid ((s.data.toList.take k).all isD = true)) (fun _ iv => s.size - (intOf iv).toNat)
  case atStart => exact ⟨0, rfl, Nat.zero_le _, by simp [Hid]⟩
  case round =>
    obtain ⟨k, rfl, hk, HA⟩ := hrel
    by_cases hlt : k < s.size
    · cases hd : isD (s[k]'hlt) with
      | true =>
        have hd2 := isD_lt hd
        have hb1 : decide (((s[k]'hlt).toNat : Int) < 48) = false := decide_eq_false (by omega)
        have hb2 : decide ((57 : Int) < ((s[k]'hlt).toNat : Int)) = false := decide_eq_false (by omega)
        have HA2 := Lib.hid (all_take_next hlt HA.out hd)
        clear hd hd2
        go_wp2_with fail
        all_goals go_round
        case rel => exact ⟨k + 1, by go_num, by omega, HA2⟩
        case measure => simp [intOf] <;> omega
      | false =>
        have HV := Lib.hid (HF.out k hlt hd)
        rcases isD_no hd with hd2 | ⟨hd2, hd3⟩
        · have hb1 : decide (((s[k]'hlt).toNat : Int) < 48) = true := decide_eq_true (by omega)
          clear hd hd2
          go_wp2_with fail
          go_ret
          exact ⟨by rw [HV.out]; rfl, rfl⟩
        · have hb1 : decide (((s[k]'hlt).toNat : Int) < 48) = false := decide_eq_false (by omega)
          have hb2 : decide ((57 : Int) < ((s[k]'hlt).toNat : Int)) = true := decide_eq_true (by omega)
          clear hd hd2 hd3
          go_wp2_with fail
          go_ret
          exact ⟨by rw [HV.out]; rfl, rfl⟩
    · have hall : s.data.toList.all isD = true := by
        have := HA.out
        rw [List.take_of_length_le (by rw [len_list]; omega)] at this; exact this
      by_cases h0 : s.size = 0
      · have HV := Lib.hid (HN.out h0)
        rw [decide_eq_true h0] at hn1 hn2
        clear hall h0
        go_wp2_with fail
        go_ret
        exact ⟨by rw [HV.out]; rfl, rfl⟩
      · have HV := Lib.hid (HT.out (by omega) hall)
        rw [decide_eq_false h0] at hn1 hn2
        clear hall h0
        go_wp2_with fail
        go_ret
        exact ⟨by rw [HV.out]; rfl, rfl⟩
set_option maxHeartbeats 1600000 in
theorem digY_any (s : ByteArray) (w : World) (hs : s.size ≤ 1000001) :
    Calls Tryz.prog 89 #[.string s] w fun e w' => e = .returned (.bool (digL s.data.toList)) ∧ w = w' := by
  have HF := Lib.hid (fun (k : Nat) (h : k < s.size) hd => digL_false h hd)
  have HT := Lib.hid (fun h0 h => digL_true (s := s) h0 h)
  have HN := Lib.hid (fun h0 => digL_none (s := s) h0)
  obtain ⟨V, hV⟩ : ∃ V, V = digL s.data.toList := ⟨_, rfl⟩
  rw [← hV] at HF HT HN ⊢
  clear hV
  go_enter Tryz.func89, Tryz.ntmps89
  go_wp2_with fail
  go_loop [3] (fun iv => ∃ k : Nat, iv = .int .i64 k ∧ k ≤ s.size ∧ Hid ((s.data.toList.take k).all isD = true)) (fun iv => s.size - (intOf iv).toNat)
  case atStart => exact ⟨0, rfl, Nat.zero_le _, by simp [Hid]⟩
  case round =>
    obtain ⟨k, rfl, hk, HA⟩ := hrel
    by_cases hlt : k < s.size
    · cases hd : isD (s[k]'hlt) with
      | true =>
        have hd2 := isD_lt hd
        have hb1 : decide (((s[k]'hlt).toNat : Int) < 48) = false := decide_eq_false (by omega)
        have hb2 : decide ((57 : Int) < ((s[k]'hlt).toNat : Int)) = false := decide_eq_false (by omega)
        have HA2 := Lib.hid (all_take_next hlt HA.out hd)
        clear hd hd2
        go_wp2_with fail
        all_goals go_round
        case rel => exact ⟨k + 1, by go_num, by omega, HA2⟩
        case measure => simp [intOf] <;> omega
      | false =>
        have HV := Lib.hid (HF.out k hlt hd)
        rcases isD_no hd with hd2 | ⟨hd2, hd3⟩
        · have hb1 : decide (((s[k]'hlt).toNat : Int) < 48) = true := decide_eq_true (by omega)
          clear hd hd2
          go_wp2_with fail
          go_ret
          exact ⟨by rw [HV.out]; rfl, rfl⟩
        · have hb1 : decide (((s[k]'hlt).toNat : Int) < 48) = false := decide_eq_false (by omega)
          have hb2 : decide ((57 : Int) < ((s[k]'hlt).toNat : Int)) = true := decide_eq_true (by omega)
          clear hd hd2 hd3
          go_wp2_with fail
          go_ret
          exact ⟨by rw [HV.out]; rfl, rfl⟩
    · have hall : s.data.toList.all isD = true := by
        have := HA.out
        rw [List.take_of_length_le (by rw [len_list]; omega)] at this; exact this
      have HV := Lib.hid (show V = decide (0 < s.size) by
        rcases Nat.eq_zero_or_pos s.size with h | h
        · rw [HN.out h, decide_eq_false (by omega)]
        · rw [HT.out h hall, decide_eq_true h])
      clear hall
      go_wp2_with fail
      go_ret
      exact ⟨by rw [HV.out]; rfl, rfl⟩
/-- a right integer -/
def rgY (s : ByteArray) : Bool := zCan s && decide ((magB s).size ≤ 400)
theorem rgY_nil {s : ByteArray} (h : (magB s).size = 0) : rgY s = false := by
  have h1 : canonL (magB s).data.toList = false := by
    have := len_list (magB s)
    rw [h] at this
    rw [List.length_eq_zero_iff.1 this]; rfl
  unfold rgY zCan; rw [h1]; rfl
theorem rgY_long {s : ByteArray} (h : 400 < (magB s).size) : rgY s = false := by unfold rgY; rw [decide_eq_false (by omega), Bool.and_false]
theorem rgY_bad {s : ByteArray} (h : (magB s).data.toList.all isD = false) : rgY s = false := by unfold rgY zCan canonL; rw [h, Bool.and_false]; rfl
theorem rgY_lead {s : ByteArray} (h0 : 0 < (magB s).size) (h : ((((magB s)[0]'h0).toNat : Int) == 48) = true) (h2 : (s.toList == [48]) = false) : rgY s = false := by
  cases hz : zCan s with
  | false => unfold rgY; rw [hz]; rfl
  | true =>
    obtain ⟨z, rfl⟩ := zCan_yes hz
    have hm := magB_zS z
    have hl := at_list (magB (zS z)) 0 h0
    have hb : (magB (zS z)).data.toList = Lib.decDigits z.natAbs := by rw [hm, str_list]
    have h48 : (magB (zS z))[0] = 48 := by have := beq_iff_eq.1 h; exact UInt8.toNat_inj.1 (by show _ = 48; omega)
    have hhd : (Lib.decDigits z.natAbs).head? = some 48 := by
      rw [← hb, List.head?_eq_getElem?, List.getElem?_eq_getElem (by rw [len_list]; exact h0), hl, h48]
    by_cases hp : 0 < z.natAbs
    · exact absurd hhd (dd_head _ hp)
    · have : z = 0 := by omega
      subst this
      rw [zS_zero, tl] at h2
      exact absurd h2 (by decide)
theorem rgY_ok {s : ByteArray} (h0 : 0 < (magB s).size) (h4 : (magB s).size ≤ 400) (ha : (magB s).data.toList.all isD = true) (h : ((((magB s)[0]'h0).toNat : Int) == 48) = false ∨ (s.toList == [48]) = true) : rgY s = true := by
  unfold rgY
  rw [decide_eq_true h4, Bool.and_true]
  rcases h with h | h
  · unfold zCan canonL
    rw [ha, hd1 h0]
    have h1 : ((((magB s)[0]'h0).toNat : Int) != 48) = true := by rw [bne, h]; rfl
    have h2 : ((magB s).toList == [48]) = false := by
      rw [beq_eq_false_iff_ne]; intro q
      rw [tl] at q
      have hl := at_list (magB s) 0 h0
      have h48 : (magB s)[0] = 48 := by rw [← hl]; simp [q]
      rw [h48] at h; exact absurd h (by decide)
    rw [h1, h2]; simp
  · have hs : s = zS 0 := by
      rw [zS_zero]
      have := beq_iff_eq.1 h
      rw [tl] at this
      have e : ∀ (u : ByteArray) (l : List UInt8), u.data.toList = l → u = (⟨l.toArray⟩ : ByteArray) := by
        intro u l h; subst h; simp
      exact e _ _ this
    rw [hs]; exact zCan_zS 0
set_option maxHeartbeats 3200000 in
theorem canY_any (s : ByteArray) (w : World) (_hs : s.size ≤ 1000001) :
    Calls Tryz.prog 20 #[.string s] w fun e w' => e = .returned (.bool (rgY s)) ∧ w = w' := by
  have HT := Lib.hid (show ∀ wx, Calls Tryz.prog 18 #[.string s, .string ⟨#[45]⟩] wx fun e w' => e = .returned (.string (magB s)) ∧ wx = w' from fun wx => (Tryz.strings_TrimPrefix s ⟨#[45]⟩ wx).mono fun e w' h => ⟨by rw [h.1]; exact congrArg (fun x => Ending.returned (.string x)) (trimP_mag s), h.2.symm⟩)
  have hml := magB_len (s := s)
  have H1 := Lib.hid (fun h => rgY_nil (s := s) h)
  have H2 := Lib.hid (fun h => rgY_long (s := s) h)
  have H3 := Lib.hid (fun h => rgY_bad (s := s) h)
  have H4 := Lib.hid (fun h0 h h2 => rgY_lead (s := s) h0 h h2)
  have H5 := Lib.hid (fun h0 h4 ha h => rgY_ok (s := s) h0 h4 ha h)
  obtain ⟨V, hV⟩ : ∃ V, V = rgY s := ⟨_, rfl⟩
  obtain ⟨m, hm⟩ : ∃ m, m = magB s := ⟨_, rfl⟩
  rw [← hV] at H1 H2 H3 H4 H5 ⊢
  rw [← hm] at hml HT H1 H2 H3 
  have HE := Lib.hid hm
  clear hV
  by_cases hm0 : m.size = 0
  · have hb : ((m.size : Int) == 0) = true := by rw [beq_iff_eq]; omega
    have HV := Lib.hid (H1.out hm0)
    clear hm hm0 H4 H5
    go_enter Tryz.func20, Tryz.ntmps20
    go_wp2_with fail
    refine (HT.out _).mono ?_
    rintro e w1 ⟨rfl, rfl⟩
    go_wp2_with fail
    go_ret
    exact ⟨by rw [HV.out]; rfl, rfl⟩
  · have hb : ((m.size : Int) == 0) = false := by rw [beq_eq_false_iff_ne]; omega
    by_cases hm4 : 400 < m.size
    · have hb2 : decide ((400 : Int) < m.size) = true := decide_eq_true (by omega)
      have HV := Lib.hid (H2.out hm4)
      clear hm hm0 H4 H5
      go_enter Tryz.func20, Tryz.ntmps20
      go_wp2_with fail
      refine (HT.out _).mono ?_
      rintro e w1 ⟨rfl, rfl⟩
      go_wp2_with fail
      go_ret
      exact ⟨by rw [HV.out]; rfl, rfl⟩
    · have hb2 : decide ((400 : Int) < m.size) = false := decide_eq_false (by omega)
      have h0 : 0 < m.size := by omega
      have hi0 : (0 : Int) < m.size := by omega
      have H4' := Lib.hid (show (((m[0]'h0).toNat : Int) == 48) = true → (s.toList == [48]) = false → V = false by subst hm; exact H4.out h0)
      have H5' := Lib.hid (show m.data.toList.all isD = true → ((((m[0]'h0).toNat : Int) == 48) = false ∨ (s.toList == [48]) = true) → V = true by subst hm; exact H5.out h0 (by omega))
      clear hm H4 H5 HE
      cases hc : (((m[0]'h0).toNat : Int) == 48) with
      | true =>
        cases hz : (s.toList == [48]) with
        | false =>
          have HV := Lib.hid (H4'.out hc hz)
          clear hm0 H4' H5'
          go_enter Tryz.func20, Tryz.ntmps20
          go_wp2_with fail
          refine (HT.out _).mono ?_
          rintro e w1 ⟨rfl, rfl⟩
          go_wp2_with fail
          go_ret
          exact ⟨by rw [HV.out]; rfl, rfl⟩
        | true =>
          have H6 := Lib.hid (fun ha => H5'.out ha (.inr hz))
          clear hm0 H4' H5'
          go_enter Tryz.func20, Tryz.ntmps20
          go_wp2_with fail
          refine (HT.out _).mono ?_
          rintro e w1 ⟨rfl, rfl⟩
          go_wp2_with fail
          go_loop [4] (fun iv => ∃ k : Nat, iv = .int .i64 k ∧ k ≤ m.size ∧ Hid ((m.data.toList.take k).all isD = true)) (fun iv => m.size - (intOf iv).toNat)
          case atStart => exact ⟨0, rfl, Nat.zero_le _, by simp [Hid]⟩
          case round =>
            obtain ⟨k, rfl, hk, HA⟩ := hrel
            by_cases hlt : k < m.size
            · cases hd : isD (m[k]'hlt) with
              | true =>
                have hd2 := isD_lt hd
                have hb1 : decide (((m[k]'hlt).toNat : Int) < 48) = false := decide_eq_false (by omega)
                have hb2 : decide ((57 : Int) < ((m[k]'hlt).toNat : Int)) = false := decide_eq_false (by omega)
                have HA2 := Lib.hid (all_take_next hlt HA.out hd)
                clear hd hd2
                go_wp2_with fail
                all_goals go_round
                case rel => exact ⟨k + 1, by go_num, by omega, HA2⟩
                case measure => simp [intOf] <;> omega
              | false =>
                have HV := Lib.hid (H3.out (not_all hlt hd))
                rcases isD_no hd with hd2 | ⟨hd2, hd3⟩
                · have hb1 : decide (((m[k]'hlt).toNat : Int) < 48) = true := decide_eq_true (by omega)
                  clear hd hd2
                  go_wp2_with fail
                  go_ret
                  exact ⟨by rw [HV.out]; rfl, rfl⟩
                · have hb1 : decide (((m[k]'hlt).toNat : Int) < 48) = false := decide_eq_false (by omega)
                  have hb2 : decide ((57 : Int) < ((m[k]'hlt).toNat : Int)) = true := decide_eq_true (by omega)
                  clear hd hd2 hd3
                  go_wp2_with fail
                  go_ret
                  exact ⟨by rw [HV.out]; rfl, rfl⟩
            · have hall : m.data.toList.all isD = true := by
                have := HA.out
                rw [List.take_of_length_le (by rw [len_list]; omega)] at this; exact this
              have HV := Lib.hid (H6.out hall)
              clear hall
              go_wp2_with fail
              go_ret
              exact ⟨by rw [HV.out]; rfl, rfl⟩
      | false =>
        have H6 := Lib.hid (fun ha => H5'.out ha (.inl hc))
        clear hm0 H4' H5'
        go_enter Tryz.func20, Tryz.ntmps20
        go_wp2_with fail
        refine (HT.out _).mono ?_
        rintro e w1 ⟨rfl, rfl⟩
        go_wp2_with fail
        go_loop [4] (fun iv => ∃ k : Nat, iv = .int .i64 k ∧ k ≤ m.size ∧ Hid ((m.data.toList.take k).all isD = true)) (fun iv => m.size - (intOf iv).toNat)
        case atStart => exact ⟨0, rfl, Nat.zero_le _, by simp [Hid]⟩
        case round =>
          obtain ⟨k, rfl, hk, HA⟩ := hrel
          by_cases hlt : k < m.size
          · cases hd : isD (m[k]'hlt) with
            | true =>
              have hd2 := isD_lt hd
              have hb1 : decide (((m[k]'hlt).toNat : Int) < 48) = false := decide_eq_false (by omega)
              have hb2 : decide ((57 : Int) < ((m[k]'hlt).toNat : Int)) = false := decide_eq_false (by omega)
              have HA2 := Lib.hid (all_take_next hlt HA.out hd)
              clear hd hd2
              go_wp2_with fail
              all_goals go_round
              case rel => exact ⟨k + 1, by go_num, by omega, HA2⟩
              case measure => simp [intOf] <;> omega
            | false =>
              have HV := Lib.hid (H3.out (not_all hlt hd))
              rcases isD_no hd with hd2 | ⟨hd2, hd3⟩
              · have hb1 : decide (((m[k]'hlt).toNat : Int) < 48) = true := decide_eq_true (by omega)
                clear hd hd2
                go_wp2_with fail
                go_ret
                exact ⟨by rw [HV.out]; rfl, rfl⟩
              · have hb1 : decide (((m[k]'hlt).toNat : Int) < 48) = false := decide_eq_false (by omega)
                have hb2 : decide ((57 : Int) < ((m[k]'hlt).toNat : Int)) = true := decide_eq_true (by omega)
                clear hd hd2 hd3
                go_wp2_with fail
                go_ret
                exact ⟨by rw [HV.out]; rfl, rfl⟩
          · have hall : m.data.toList.all isD = true := by
              have := HA.out
              rw [List.take_of_length_le (by rw [len_list]; omega)] at this; exact this
            have HV := Lib.hid (H6.out hall)
            clear hall
            go_wp2_with fail
            go_ret
            exact ⟨by rw [HV.out]; rfl, rfl⟩
end Go.Proofs.YtdgbplppabalgaaGreatDoor

namespace Go.Proofs.YtdgbplppabalgaaGreatDoor
open Go.RowKit

theorem trP (s : ByteArray) (wx : World) : Calls Tryz.prog 18 #[.string s, .string ⟨#[45]⟩] wx fun e w' => e = .returned (.string (magB s)) ∧ wx = w' :=
  (Tryz.strings_TrimPrefix s ⟨#[45]⟩ wx).mono fun _ _ h => ⟨by rw [h.1]; show Ending.returned (.string (⟨(Lib.trimPrefix s.data.toList [45]).toArray⟩ : ByteArray)) = _; rw [trimP_mag], h.2.symm⟩
theorem ten_size {k : Nat} (h : k ≤ 399) : (str (((10 ^ k : Nat) : Int)).natAbs).size ≤ 400 := by
  rw [Int.natAbs_natCast]
  have hk : 10 ^ k < 10 ^ (k + 1) := Nat.pow_lt_pow_right (by decide) (by omega)
  exact Nat.le_trans (str_big hk (by omega)) (by omega)
theorem sgN_abs (b : Bool) (n : Nat) : (sgN b n).natAbs = n := by unfold sgN; split <;> omega
theorem val_size2 {l : List UInt8} (h : l.all isD = true) {k : Nat} (hk : l.length ≤ k) (h0 : 0 < k) : (str (val l)).size ≤ k :=
  str_big (Nat.lt_of_lt_of_le (val_lt _ h) (Nat.pow_le_pow_right (by decide) hk)) h0
set_option maxHeartbeats 1600000 in
set_option maxRecDepth 100000 in
theorem pdF_bad (b r : ByteArray) (w : World) (hb : b.size ≤ 400) (hr : r.size ≤ 400) (h : digL (magB b).data.toList = false ∨ digL r.data.toList = false) :
    Calls Tryz.prog 79 #[.string b, .string r] w fun e w' => e = .returned (.tuple #[ratV ⟨#[]⟩ ⟨#[]⟩, .int .i64 15]) ∧ Below w.heap.size w w' := by
  have HT := Lib.hid (fun wx => trP b wx)
  have hm := mag_le b
  have HA := Lib.hid (fun wx => areF_any (magB b) wx (by omega))
  have HR := Lib.hid (fun wx => areF_any r wx (by omega))
  have HZ := Lib.hid (Bz.new w)
  obtain ⟨m, hmm⟩ : ∃ m, m = magB b := ⟨_, rfl⟩
  rw [← hmm] at HT HA h
  obtain ⟨x, hx⟩ : ∃ x, x = digL m.data.toList := ⟨_, rfl⟩
  obtain ⟨y, hy⟩ : ∃ x, x = digL r.data.toList := ⟨_, rfl⟩
  rw [← hx] at HA h
  rw [← hy] at HR h
  clear hmm hx hy hm hb hr
  cases x with
  | false =>
    clear h
    go_enter Tryz.func79, Tryz.ntmps79
    go_upto_region 1 with fail
    obtain ⟨W0, hW0⟩ : ∃ W0, W0 = w.alloc (.cells #[.string ⟨#[]⟩, .string ⟨#[]⟩] 24) := ⟨_, rfl⟩
    rw [← hW0] at HZ ⊢
    clear hW0
    go_wp2_with fail
    refine (HT.out _).mono ?_
    rintro e w1 ⟨rfl, rfl⟩
    go_wp2_with fail
    refine (HA.out _).mono ?_
    rintro e w2 ⟨rfl, rfl⟩
    have f0 := HZ.out.res.free 0
    have e0 := HZ.out.res.c0
    have e1 := HZ.out.res.c1
    have S0 := HZ.out.res.set0 (.string ⟨#[]⟩)
    have S1 := S0.set1 (.string ⟨#[]⟩)
    have f1 := S0.free 1
    have g1 := S0.c1
    have x0 := S1.c0
    have x1 := S1.c1
    have HBE := Lib.hid ((HZ.out.below.setCell (p := ⟨w.heap.size, 0, none⟩) (Nat.le_refl _) (.string ⟨#[]⟩)).setCell (p := ⟨w.heap.size, 1, none⟩) (Nat.le_refl _) (.string ⟨#[]⟩))
    clear S0 S1
    go_wp2_with fail
    (try simp only [Exit.inBlock, Exit.then])
    refine bodyPost_ret (v := .tuple #[ratV ⟨#[]⟩ ⟨#[]⟩, .int .i64 15]) ?_ rfl ⟨rfl, HBE.out⟩
    rw [results_cell_tmp rfl]
    go_simp
  | true =>
    obtain rfl : y = false := by simpa using h
    clear h
    go_enter Tryz.func79, Tryz.ntmps79
    go_upto_region 1 with fail
    obtain ⟨W0, hW0⟩ : ∃ W0, W0 = w.alloc (.cells #[.string ⟨#[]⟩, .string ⟨#[]⟩] 24) := ⟨_, rfl⟩
    rw [← hW0] at HZ ⊢
    clear hW0
    go_wp2_with fail
    refine (HT.out _).mono ?_
    rintro e w1 ⟨rfl, rfl⟩
    go_wp2_with fail
    refine (HA.out _).mono ?_
    rintro e w2 ⟨rfl, rfl⟩
    go_wp2_with fail
    refine (HR.out _).mono ?_
    rintro e w3 ⟨rfl, rfl⟩
    have f0 := HZ.out.res.free 0
    have e0 := HZ.out.res.c0
    have e1 := HZ.out.res.c1
    have S0 := HZ.out.res.set0 (.string ⟨#[]⟩)
    have S1 := S0.set1 (.string ⟨#[]⟩)
    have f1 := S0.free 1
    have g1 := S0.c1
    have x0 := S1.c0
    have x1 := S1.c1
    have HBE := Lib.hid ((HZ.out.below.setCell (p := ⟨w.heap.size, 0, none⟩) (Nat.le_refl _) (.string ⟨#[]⟩)).setCell (p := ⟨w.heap.size, 1, none⟩) (Nat.le_refl _) (.string ⟨#[]⟩))
    clear S0 S1
    go_wp2_with fail
    (try simp only [Exit.inBlock, Exit.then])
    refine bodyPost_ret (v := .tuple #[ratV ⟨#[]⟩ ⟨#[]⟩, .int .i64 15]) ?_ rfl ⟨rfl, HBE.out⟩
    rw [results_cell_tmp rfl]
    go_simp
set_option maxHeartbeats 3200000 in
set_option maxRecDepth 100000 in
theorem pdF_ok (b r : ByteArray) (w : World) (hs : Std w) (hl : b.size + r.size ≤ 399) (h1 : digL (magB b).data.toList = true) (h2 : digL r.data.toList = true) :
    Calls Tryz.prog 79 #[.string b, .string r] w fun e w' => e = .returned (.tuple #[ratV (newS (sgN (negB b) (val ((magB b).data.toList ++ r.data.toList))) ((10 ^ r.size : Nat) : Int)) (newT (sgN (negB b) (val ((magB b).data.toList ++ r.data.toList))) ((10 ^ r.size : Nat) : Int)), .int .i64 (newE ((10 ^ r.size : Nat) : Int))]) ∧ Below w.heap.size w w' := by
  have HT := Lib.hid (fun wx => trP b wx)
  have hm := mag_le b
  have HA := Lib.hid (fun wx => areF_any (magB b) wx (by omega))
  have HR := Lib.hid (fun wx => areF_any r wx (by omega))
  rw [h1] at HA
  rw [h2] at HR
  have hr0 : 0 < r.size := by
    rw [size_list]; apply Nat.pos_of_ne_zero; intro k; exact digL_ne h2 (List.length_eq_zero_iff.1 k)
  have HP1 := Lib.hid (fun wx => parW_any (b ++ r) wx (by rw [ByteArray.size_append]; omega))
  rw [par_cat h1 h2 (by omega)] at HP1
  have hsz : (⟨(Lib.repeatL [48] r.size).toArray⟩ : ByteArray).size = r.size := by
    rw [size_list]; show (Lib.repeatL [48] r.size).length = _; rw [Lib.repeatL_length]; simp
  have HRP := Lib.hid (fun wx => Tryz.strings_Repeat ⟨#[48]⟩ r.size wx (by omega) (by show 1 * r.size ≤ _; omega))
  have HP2 := Lib.hid (fun wx => parW_any ((⟨#[49]⟩ : ByteArray) ++ ⟨(Lib.repeatL [48] r.size).toArray⟩) wx (by rw [ByteArray.size_append, hsz]; show 1 + r.size ≤ 100000; omega))
  rw [par_ten hr0 (by omega)] at HP2
  have h3 : (str (sgN (negB b) (val ((magB b).data.toList ++ r.data.toList))).natAbs).size ≤ 400000 := by
    rw [sgN_abs]
    refine Nat.le_trans (val_size2 (by rw [List.all_append, digL_all h1, digL_all h2]; rfl) (k := 400) ?_ (by decide)) (by decide)
    rw [List.length_append, ← size_list, ← size_list]; omega
  have HN := Lib.hid (fun wx (hw : Std wx) => newF_any (sgN (negB b) (val ((magB b).data.toList ++ r.data.toList))) ((10 ^ r.size : Nat) : Int) wx hw h3 (Nat.le_trans (ten_size (by omega)) (by decide)))
  have hc1 : b.size + r.size ≤ 9223372036854775807 := by omega
  have hc2 : 1 + (⟨(Lib.repeatL [48] r.size).toArray⟩ : ByteArray).size ≤ 9223372036854775807 := by omega
  have hc3 : (⟨#[49]⟩ : ByteArray).size + (⟨(Lib.repeatL [48] r.size).toArray⟩ : ByteArray).size ≤ 9223372036854775807 := by rw [hsz]; show 1 + r.size ≤ _; omega
  have HZ := Lib.hid (Bz.new w)
  have HS := Lib.hid hs
  obtain ⟨N, hN⟩ : ∃ N, N = sgN (negB b) (val ((magB b).data.toList ++ r.data.toList)) := ⟨_, rfl⟩
  obtain ⟨D, hD⟩ : ∃ D : Int, D = ((10 ^ r.size : Nat) : Int) := ⟨_, rfl⟩
  rw [← hN, ← hD] at HN ⊢
  rw [← hN] at HP1
  rw [← hD] at HP2
  obtain ⟨ps, hps⟩ : ∃ s, s = newS N D := ⟨_, rfl⟩
  obtain ⟨qs, hqs⟩ : ∃ s, s = newT N D := ⟨_, rfl⟩
  obtain ⟨E, hE⟩ : ∃ E, E = newE D := ⟨_, rfl⟩
  rw [← hps, ← hqs, ← hE] at HN ⊢
  obtain ⟨sn, hsn⟩ : ∃ s, s = zS N := ⟨_, rfl⟩
  obtain ⟨sd, hsd⟩ : ∃ s, s = zS D := ⟨_, rfl⟩
  rw [← hsn, ← hsd] at HN
  rw [← hsn] at HP1
  rw [← hsd] at HP2
  obtain ⟨rp, hrp⟩ : ∃ s : ByteArray, s = ⟨(Lib.repeatL [48] r.size).toArray⟩ := ⟨_, rfl⟩
  have hdt : (⟨#[48]⟩ : ByteArray).data.toList = [48] := rfl
  rw [hdt, ← hrp] at HRP
  rw [← hrp] at HP2 hc2 hc3
  obtain ⟨m, hmm⟩ : ∃ m, m = magB b := ⟨_, rfl⟩
  rw [← hmm] at HT HA
  clear hmm hm hl h1 h2 hr0 hsz h3 hN hD hps hqs hE hsn hsd hrp hdt hs
  go_enter Tryz.func79, Tryz.ntmps79
  go_upto_region 1 with fail
  obtain ⟨W0, hW0⟩ : ∃ W0, W0 = w.alloc (.cells #[.string ⟨#[]⟩, .string ⟨#[]⟩] 24) := ⟨_, rfl⟩
  rw [← hW0] at HZ ⊢
  clear hW0
  go_wp2_with fail
  refine (HT.out _).mono ?_
  rintro e w1 ⟨rfl, rfl⟩
  go_wp2_with fail
  refine (HA.out _).mono ?_
  rintro e w2 ⟨rfl, rfl⟩
  go_wp2_with fail
  refine (HR.out _).mono ?_
  rintro e w3 ⟨rfl, rfl⟩
  go_wp2_with fail
  refine (HP1.out _ ).mono ?_
  rintro e w4 ⟨rfl, b4⟩
  have Z4 := Lib.hid (HZ.out.to b4)
  clear b4
  go_wp2_with fail
  refine (HRP.out _ ).mono ?_
  rintro e w5 ⟨rfl, b5⟩
  have Z5 := Lib.hid (Z4.out.to b5)
  clear b5
  go_wp2_with fail
  refine (HP2.out _ ).mono ?_
  rintro e w6 ⟨rfl, b6⟩
  have Z6 := Lib.hid (Z5.out.to b6)
  clear b6
  go_wp2_with fail
  refine (HN.out _ (HS.out.below Z6.out.below)).mono ?_
  rintro e w7 ⟨rfl, b7⟩
  have Z7 := Lib.hid (Z6.out.to b7)
  clear b7
  have f0 := Z7.out.res.free 0
  have e0 := Z7.out.res.c0
  have e1 := Z7.out.res.c1
  have S0 := Z7.out.res.set0 (.string ps)
  have S1 := S0.set1 (.string qs)
  have f1 := S0.free 1
  have g1 := S0.c1
  have x0 := S1.c0
  have x1 := S1.c1
  have HBE := Lib.hid ((Z7.out.below.setCell (p := ⟨w.heap.size, 0, none⟩) (Nat.le_refl _) (.string ps)).setCell (p := ⟨w.heap.size, 1, none⟩) (Nat.le_refl _) (.string qs))
  clear S0 S1
  go_wp2_with fail
  (try simp only [Exit.inBlock, Exit.then])
  refine bodyPost_ret (v := .tuple #[ratV ps qs, .int .i64 E]) ?_ rfl ⟨rfl, HBE.out⟩
  rw [results_cell_tmp rfl]
  go_simp
end Go.Proofs.YtdgbplppabalgaaGreatDoor
