/-
  The reference of package whole: Parse.
-/
import Derived.Test.YtjebddpapbopnaaGreatDoorZPar
namespace Go.Proofs.YtjebddpapbopnaaGreatDoor
open Go.RowKit

theorem ext1 {u : ByteArray} (h : 0 < u.size) : (u.extract 1 u.size).data.toList = u.data.toList.tail ∧ (u.extract 1 u.size).size = u.size - 1 := by
  refine ⟨?_, by rw [ByteArray.size_extract]; omega⟩
  rw [ByteArray.data_extract, Array.toList_extract]
  have hl := len_list u
  cases hq : u.data.toList with
  | nil => rw [hq] at hl; simp at hl; omega
  | cons c l =>
    rw [hq] at hl
    simp [List.extract]
    rw [List.take_of_length_le]; simp at hl; omega
/-- a list of digits that is about to lose a zero -/
structure Dg (v : Nat) (u : ByteArray) : Prop where
  all : u.data.toList.all isD = true
  val : val u.data.toList = v
theorem Dg.step {v : Nat} {u : ByteArray} (h : Dg v u) (h0 : 0 < u.size) (hb : (((u[0]'h0).toNat : Int) == 48) = true) : Dg v (u.extract 1 u.size) := by
  obtain ⟨e, -⟩ := ext1 h0
  have hl := len_list u
  have hg := at_list u 0 h0
  have h1 := h.all
  have h2 := h.val
  cases hq : u.data.toList with
  | nil => rw [hq] at hl; simp at hl; omega
  | cons c l =>
    rw [hq] at h1 h2 e
    have hc : c.toNat = 48 := by
      have : c = u[0] := by rw [← hg]; simp [hq]
      rw [this]; have := beq_iff_eq.1 hb; omega
    rw [val_cons, hc] at h2
    simp only [List.all_cons, Bool.and_eq_true] at h1
    exact ⟨by rw [e]; exact h1.2, by rw [e]; show Go.Proofs.YtjebddpapbopnaaGreatDoor.val l = v; omega⟩
theorem Dg.done {v : Nat} {u : ByteArray} (h : Dg v u) (h0 : 0 < u.size) (hx : ¬ (1 < u.size) ∨ (((u[0]'h0).toNat : Int) == 48) = false) : u = str v := by
  have hc : canonL u.data.toList = true := by
    unfold canonL
    rw [h.all, Bool.and_true, hd1 h0]
    have hl := len_list u
    have hg := at_list u 0 h0
    rcases hx with hx | hx
    · cases hq : (((u[0]'h0).toNat : Int) == 48) with
      | true =>
        rw [Bool.or_eq_true]; left
        rw [tl, beq_iff_eq]
        cases hu : u.data.toList with
        | nil => rw [hu] at hl; simp at hl; omega
        | cons c l =>
          rw [hu] at hl
          have hll : l = [] := by cases l with
            | nil => rfl
            | cons d l => simp at hl; omega
          have hcc : c = u[0] := by rw [← hg]; simp [hu]
          have : c = 48 := by rw [hcc]; have := beq_iff_eq.1 hq; exact UInt8.toNat_inj.1 (by show _ = 48; omega)
          rw [hll, this]
      | false => rw [Bool.or_eq_true]; right; rw [beq_eq_false_iff_ne] at hq; rw [bne_iff_ne]; exact hq
    · rw [Bool.or_eq_true]; right; rw [beq_eq_false_iff_ne] at hx; rw [bne_iff_ne]; exact hx
  rw [str_of hc, h.val]
set_option maxHeartbeats 6400000 in
set_option maxRecDepth 100000 in
theorem parR_any (s : ByteArray) (w : World) (hs : s.size ≤ 100000) :
    Calls Tryz.prog 23 #[.string s] w fun e w' => e = .returned (.tuple #[.string (parV s).1, .int .i64 (parV s).2]) ∧ w = w' := by
  by_cases h0 : s.size = 0
  · have HV := Lib.hid (parV_nil h0)
    have hn : (s.toList == []) = true := by rw [nil_tl]; exact decide_eq_true h0
    obtain ⟨V, hV⟩ : ∃ V, V = parV s := ⟨_, rfl⟩
    rw [← hV] at HV ⊢
    clear hV h0 hs
    go_enter Tryz.func23, Tryz.ntmps23
    go_wp2_with fail
    go_ret2
    exact ⟨by rw [HV.out]; rfl, rfl⟩
  · have hn : (s.toList == []) = false := by rw [nil_tl]; exact decide_eq_false h0
    have h0' : 0 < s.size := by omega
    have hp : (0 : Int) < s.size := by omega
    have h1' : 1 ≤ s.size := h0'
    have hml := magB_len (s := s)
    have HBAD := Lib.hid (fun h => parV_bad (s := s) h0 h)
    have HLONG := Lib.hid (fun h => parV_long (s := s) h0 h)
    have HOK := Lib.hid (fun h => parV_ok (s := s) h0 h)
    have hat := negB_at h0'
    obtain ⟨V, hV⟩ : ∃ V, V = parV s := ⟨_, rfl⟩
    have hmm : magB s = if negB s = true then s.extract 1 s.size else s := rfl
    obtain ⟨m, hm⟩ : ∃ m, m = magB s := ⟨_, rfl⟩
    rw [← hV, ← hm] at HBAD HLONG HOK
    rw [← hV]
    rw [← hm] at hml hmm
    cases hN : negB s with
    | true =>
      rw [hN] at hat hmm HOK
      rw [if_pos rfl] at hmm HOK
      have hb := hat.symm
      have HM := Lib.hid hmm
      clear hV hm hN h0 hat hmm
      by_cases hm0 : m.size = 0
      · have hmn : ((s.extract 1 s.size).toList == []) = true := by rw [← HM.out, nil_tl]; exact decide_eq_true hm0
        have HV := Lib.hid (HBAD.out (.inl hm0))
        clear hm0 HM
        go_enter Tryz.func23, Tryz.ntmps23
        go_wp2_with fail
        go_ret2
        exact ⟨by rw [HV.out]; rfl, rfl⟩
      · have hmn : ((s.extract 1 s.size).toList == []) = false := by rw [← HM.out, nil_tl]; exact decide_eq_false hm0
        go_enter Tryz.func23, Tryz.ntmps23
        go_wp2_with fail
        rw [← HM.out]
        go_loop [5] (fun iv => ∃ k : Nat, iv = .int .i64 k ∧ k ≤ m.size ∧ Hid ((m.data.toList.take k).all isD = true)) (fun iv => m.size - (intOf iv).toNat)
        case atStart => exact ⟨0, rfl, Nat.zero_le _, by simp [Hid]⟩
        case round =>
          obtain ⟨k, rfl, hk, HA⟩ := hrel
          by_cases hlt : k < m.size
          · cases hd : isD (m[k]'hlt) with
            | true =>
              have hd2 := isD_lt hd
              have hb1 : decide (((m[k]'hlt).toNat : Int) < 48) = false := decide_eq_false (by omega)
              have hb2 : decide ((57 : Int) < ((m[k]'hlt).toNat : Int)) = false := decide_eq_false (by omega)
              have HA2 := Lib.hid (all_take_next hlt HA.out hd)
              clear hd hd2
              go_wp2_with fail
              all_goals go_round
              case rel => exact ⟨k + 1, by go_num, by omega, HA2⟩
              case measure => simp [intOf] <;> omega
            | false =>
              have HV := Lib.hid (HBAD.out (.inr (not_all hlt hd)))
              rcases isD_no hd with hd2 | ⟨hd2, hd3⟩
              · have hb1 : decide (((m[k]'hlt).toNat : Int) < 48) = true := decide_eq_true (by omega)
                clear hd hd2
                go_wp2_with fail
                go_ret2
                exact ⟨by rw [HV.out]; rfl, rfl⟩
              · have hb1 : decide (((m[k]'hlt).toNat : Int) < 48) = false := decide_eq_false (by omega)
                have hb2 : decide ((57 : Int) < ((m[k]'hlt).toNat : Int)) = true := decide_eq_true (by omega)
                clear hd hd2 hd3
                go_wp2_with fail
                go_ret2
                exact ⟨by rw [HV.out]; rfl, rfl⟩
          · have hall : m.data.toList.all isD = true := by
              have := HA.out
              rw [List.take_of_length_le (by rw [len_list]; omega)] at this; exact this
            have hnb : ¬ (m.size = 0 ∨ m.data.toList.all isD = false) := by rw [hall]; intro q; rcases q with q | q; exact hm0 q; cases q
            obtain ⟨v, hv⟩ : ∃ v, v = val m.data.toList := ⟨_, rfl⟩
            have HLONG2 := HLONG.out hnb
            have HOK2 := HOK.out hnb
            rw [← hv] at HLONG2 HOK2
            have HDG := Lib.hid (show Dg v m from ⟨hall, hv.symm⟩)
            have hmp : 0 < m.size := by omega
            have HL2 := Lib.hid HLONG2
            have HO2 := Lib.hid HOK2
            clear hall hnb hv HLONG HOK HBAD HA HLONG2 HOK2
            go_wp2_with fail
            go_loop [0] (fun sv => ∃ u : ByteArray, sv = .string u ∧ 0 < u.size ∧ u.size ≤ 100001 ∧ Hid (Dg v u)) (fun sv => match sv with | .string u => u.size | _ => 0)
            case atStart => exact ⟨m, rfl, hmp, by omega, HDG⟩
            case round =>
              obtain ⟨u, rfl, hu0, hul, HU⟩ := hrel
              have HLONG2 := HL2.out
              have HOK2 := HO2.out
              have hup : (0 : Int) < u.size := by omega
              by_cases h1 : 1 < u.size
              · have hgt : decide ((1 : Int) < u.size) = true := decide_eq_true (by omega)
                have hu1 : 1 ≤ u.size := by omega
                cases hb0 : (((u[0]'hu0).toNat : Int) == 48) with
                | true =>
                  have HU2 := Lib.hid (HU.out.step hu0 hb0)
                  have HE := Lib.hid (ext1 hu0).2
                  clear HLONG2 HOK2
                  go_wp2_with fail
                  all_goals go_round
                  case rel => exact ⟨u.extract 1 u.size, rfl, by rw [HE.out]; omega, by rw [HE.out]; omega, HU2⟩
                  case measure => show (u.extract 1 u.size).size < u.size; rw [HE.out]; omega
                | false =>
                  have hu : u = str v := HU.out.done hu0 (.inr hb0)
                  have hv0 := rest_zero v (by rw [← hu]; omega)
                  rw [← hu] at hv0 HLONG2 HOK2
                  have HUU := Lib.hid hu
                  by_cases h4 : 400 < u.size
                  · have hd : decide ((400 : Int) < u.size) = true := decide_eq_true (by omega)
                    have HV := Lib.hid (HLONG2 h4)
                    clear hu HU h4 HLONG2 HOK2 hv0
                    go_wp2_with fail
                    go_ret2
                    exact ⟨by rw [HV.out]; rfl, rfl⟩
                  · have hd : decide ((400 : Int) < u.size) = false := decide_eq_false (by omega)
                    by_cases hz : v = 0
                    · rw [decide_eq_true hz] at hv0
                      have HV := Lib.hid (show V = (u, 0) by rw [HOK2 h4, HUU.out, hz]; rw [show zS (-((0 : Nat) : Int)) = str 0 from zS_of_nat 0])
                      clear hu HU h4 HLONG2 HOK2 hz
                      go_wp2_with fail
                      go_ret2
                      exact ⟨by rw [HV.out]; rfl, rfl⟩
                    · rw [decide_eq_false hz] at hv0
                      have HV := Lib.hid (show V = (⟨#[45]⟩ ++ u, 0) by rw [HOK2 h4, HUU.out, zS_of_neg v hz])
                      clear hu HU h4 HLONG2 HOK2 hz
                      go_wp2_with fail
                      go_ret2
                      exact ⟨by rw [HV.out]; rfl, rfl⟩
              · have hgt : decide ((1 : Int) < u.size) = false := decide_eq_false (by omega)
                have hu : u = str v := HU.out.done hu0 (.inl h1)
                have hv0 := rest_zero v (by rw [← hu]; omega)
                rw [← hu] at hv0 HLONG2 HOK2
                have HUU := Lib.hid hu
                by_cases h4 : 400 < u.size
                · have hd : decide ((400 : Int) < u.size) = true := decide_eq_true (by omega)
                  have HV := Lib.hid (HLONG2 h4)
                  clear hu HU h4 HLONG2 HOK2 hv0
                  go_wp2_with fail
                  go_ret2
                  exact ⟨by rw [HV.out]; rfl, rfl⟩
                · have hd : decide ((400 : Int) < u.size) = false := decide_eq_false (by omega)
                  by_cases hz : v = 0
                  · rw [decide_eq_true hz] at hv0
                    have HV := Lib.hid (show V = (u, 0) by rw [HOK2 h4, HUU.out, hz]; rw [show zS (-((0 : Nat) : Int)) = str 0 from zS_of_nat 0])
                    clear hu HU h4 HLONG2 HOK2 hz
                    go_wp2_with fail
                    go_ret2
                    exact ⟨by rw [HV.out]; rfl, rfl⟩
                  · rw [decide_eq_false hz] at hv0
                    have HV := Lib.hid (show V = (⟨#[45]⟩ ++ u, 0) by rw [HOK2 h4, HUU.out, zS_of_neg v hz])
                    clear hu HU h4 HLONG2 HOK2 hz
                    go_wp2_with fail
                    go_ret2
                    exact ⟨by rw [HV.out]; rfl, rfl⟩
    | false =>
      rw [hN] at hat hmm HOK
      rw [if_neg (by decide)] at hmm HOK
      have hb := hat.symm
      subst hmm
      clear hV hm hN hat
      have hm0 := h0
      go_enter Tryz.func23, Tryz.ntmps23
      go_wp2_with fail
      go_loop [5] (fun iv => ∃ k : Nat, iv = .int .i64 k ∧ k ≤ m.size ∧ Hid ((m.data.toList.take k).all isD = true)) (fun iv => m.size - (intOf iv).toNat)
      case atStart => exact ⟨0, rfl, Nat.zero_le _, by simp [Hid]⟩
      case round =>
        obtain ⟨k, rfl, hk, HA⟩ := hrel
        by_cases hlt : k < m.size
        · cases hd : isD (m[k]'hlt) with
          | true =>
            have hd2 := isD_lt hd
            have hb1 : decide (((m[k]'hlt).toNat : Int) < 48) = false := decide_eq_false (by omega)
            have hb2 : decide ((57 : Int) < ((m[k]'hlt).toNat : Int)) = false := decide_eq_false (by omega)
            have HA2 := Lib.hid (all_take_next hlt HA.out hd)
            clear hd hd2
            go_wp2_with fail
            all_goals go_round
            case rel => exact ⟨k + 1, by go_num, by omega, HA2⟩
            case measure => simp [intOf] <;> omega
          | false =>
            have HV := Lib.hid (HBAD.out (.inr (not_all hlt hd)))
            rcases isD_no hd with hd2 | ⟨hd2, hd3⟩
            · have hb1 : decide (((m[k]'hlt).toNat : Int) < 48) = true := decide_eq_true (by omega)
              clear hd hd2
              go_wp2_with fail
              go_ret2
              exact ⟨by rw [HV.out]; rfl, rfl⟩
            · have hb1 : decide (((m[k]'hlt).toNat : Int) < 48) = false := decide_eq_false (by omega)
              have hb2 : decide ((57 : Int) < ((m[k]'hlt).toNat : Int)) = true := decide_eq_true (by omega)
              clear hd hd2 hd3
              go_wp2_with fail
              go_ret2
              exact ⟨by rw [HV.out]; rfl, rfl⟩
        · have hall : m.data.toList.all isD = true := by
            have := HA.out
            rw [List.take_of_length_le (by rw [len_list]; omega)] at this; exact this
          have hnb : ¬ (m.size = 0 ∨ m.data.toList.all isD = false) := by rw [hall]; intro q; rcases q with q | q; exact hm0 q; cases q
          obtain ⟨v, hv⟩ : ∃ v, v = val m.data.toList := ⟨_, rfl⟩
          have HLONG2 := HLONG.out hnb
          have HOK2 := HOK.out hnb
          rw [← hv] at HLONG2 HOK2
          have HDG := Lib.hid (show Dg v m from ⟨hall, hv.symm⟩)
          have hmp : 0 < m.size := by omega
          have HL2 := Lib.hid HLONG2
          have HO2 := Lib.hid HOK2
          clear hall hnb hv HLONG HOK HBAD HA HLONG2 HOK2
          go_wp2_with fail
          go_loop [0] (fun sv => ∃ u : ByteArray, sv = .string u ∧ 0 < u.size ∧ u.size ≤ 100001 ∧ Hid (Dg v u)) (fun sv => match sv with | .string u => u.size | _ => 0)
          case atStart => exact ⟨m, rfl, hmp, by omega, HDG⟩
          case round =>
            obtain ⟨u, rfl, hu0, hul, HU⟩ := hrel
            have HLONG2 := HL2.out
            have HOK2 := HO2.out
            have hup : (0 : Int) < u.size := by omega
            by_cases h1 : 1 < u.size
            · have hgt : decide ((1 : Int) < u.size) = true := decide_eq_true (by omega)
              have hu1 : 1 ≤ u.size := by omega
              cases hb0 : (((u[0]'hu0).toNat : Int) == 48) with
              | true =>
                have HU2 := Lib.hid (HU.out.step hu0 hb0)
                have HE := Lib.hid (ext1 hu0).2
                clear HLONG2 HOK2
                go_wp2_with fail
                all_goals go_round
                case rel => exact ⟨u.extract 1 u.size, rfl, by rw [HE.out]; omega, by rw [HE.out]; omega, HU2⟩
                case measure => show (u.extract 1 u.size).size < u.size; rw [HE.out]; omega
              | false =>
                have hu : u = str v := HU.out.done hu0 (.inr hb0)
                have hv0 := rest_zero v (by rw [← hu]; omega)
                rw [← hu] at hv0 HLONG2 HOK2
                have HUU := Lib.hid hu
                by_cases h4 : 400 < u.size
                · have hd : decide ((400 : Int) < u.size) = true := decide_eq_true (by omega)
                  have HV := Lib.hid (HLONG2 h4)
                  clear hu HU h4 HLONG2 HOK2 hv0
                  go_wp2_with fail
                  go_ret2
                  exact ⟨by rw [HV.out]; rfl, rfl⟩
                · have hd : decide ((400 : Int) < u.size) = false := decide_eq_false (by omega)
                  have HV := Lib.hid (show V = (u, 0) by rw [HOK2 h4, HUU.out, zS_of_nat])
                  clear hu HU h4 HLONG2 HOK2 hv0
                  go_wp2_with fail
                  go_ret2
                  exact ⟨by rw [HV.out]; rfl, rfl⟩
            · have hgt : decide ((1 : Int) < u.size) = false := decide_eq_false (by omega)
              have hu : u = str v := HU.out.done hu0 (.inl h1)
              have hv0 := rest_zero v (by rw [← hu]; omega)
              rw [← hu] at hv0 HLONG2 HOK2
              have HUU := Lib.hid hu
              by_cases h4 : 400 < u.size
              · have hd : decide ((400 : Int) < u.size) = true := decide_eq_true (by omega)
                have HV := Lib.hid (HLONG2 h4)
                clear hu HU h4 HLONG2 HOK2 hv0
                go_wp2_with fail
                go_ret2
                exact ⟨by rw [HV.out]; rfl, rfl⟩
              · have hd : decide ((400 : Int) < u.size) = false := decide_eq_false (by omega)
                have HV := Lib.hid (show V = (u, 0) by rw [HOK2 h4, HUU.out, zS_of_nat])
                clear hu HU h4 HLONG2 HOK2 hv0
                go_wp2_with fail
                go_ret2
                exact ⟨by rw [HV.out]; rfl, rfl⟩
end Go.Proofs.YtjebddpapbopnaaGreatDoor
