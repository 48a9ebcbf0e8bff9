/-
  The reference's value of an integer.
-/
import Derived.Test.YtkpaopfdnfgjeaaGreatDoorWInt
import Derived.ChangeAlike
namespace Go.Proofs.YtkpaopfdnfgjeaaGreatDoor
open Go.RowKit

theorem ret_ib {a b : Int} {p q : Bool} (h : a = b) (h2 : p = q) : Ending.returned (.tuple #[.int .i64 a, .bool p]) = Ending.returned (.tuple #[.int .i64 b, .bool q]) := by rw [h, h2]
def valV (l : List UInt8) : Int := if 11 < l.length then 0 else intV l
theorem pow11 {k : Nat} (h : k ≤ 11) : 10 ^ k ≤ 100000000000 := Nat.le_trans (Nat.pow_le_pow_right (by decide) h) (by decide)
/-- what lies in front of the loop: digits, and a sign -/
def VaIs (l : List UInt8) (t : ByteArray) (sg : Int) : Prop := t.data.toList.all isDg = true ∧ t.size ≤ 11 ∧ intV l = sg * (dval t.data.toList : Int) ∧ (sg = 1 ∨ sg = -1)
theorem drew_below (w : World) : Below w.heap.size w w.drew := Below.drew (Below.refl _ _)
theorem take_dval (t : ByteArray) (k : Nat) (h : k < t.size) : dval (t.data.toList.take (k + 1)) = dval (t.data.toList.take k) * 10 + ((t[k]'h).toNat - 48) := by
  rw [List.take_succ_eq_append_getElem (by rw [wlen_list]; exact h), wat_list t k h, dval_snoc]
theorem all_take {l : List UInt8} {p : UInt8 → Bool} (h : l.all p = true) (k : Nat) : (l.take k).all p = true := by
  rw [List.all_eq_true] at h ⊢
  intro c hc
  exact h c (List.mem_of_mem_take hc)
set_option maxHeartbeats 1600000 in
set_option maxRecDepth 100000 in
theorem valR_any (s : ByteArray) (w : World) (hc : canB s.data.toList = true) (hs : s.size ≤ 100000) :
    Calls Tryz.prog 25 #[.string s] w fun e w' => e = .returned (.tuple #[.int .i64 (valV s.data.toList), .bool (entB (intV s.data.toList))]) ∧ Below w.heap.size w w' := by
  by_cases hlen : 11 < s.size
  · have HV := Lib.hid (show valV s.data.toList = 0 by unfold valV; rw [if_pos (by rw [wlen_list]; exact hlen)])
    have HE := Lib.hid (can_long hc (by rw [wlen_list]; exact hlen))
    have hi : (11 : Int) < s.size := by omega
    clear hc
    go_enter Tryz.func25, Tryz.ntmps25
    go_wp2_with fail
    go_ret2
    exact ⟨ret_ib HV.out.symm HE.out.symm, Below.refl _ _⟩
  · have HV := Lib.hid (show valV s.data.toList = intV s.data.toList by unfold valV; rw [if_neg (by rw [wlen_list]; exact hlen)])
    have hi : ¬ (11 : Int) < s.size := by omega
    have h0 : 0 < s.size := by
      rcases can_cases hc with ⟨h1, -⟩ | ⟨r, h1, -, -, -⟩
      · have := natB_ne h1
        rw [← wlen_list]; exact List.length_pos_iff.2 this
      · rw [← wlen_list, h1]; simp
    obtain ⟨l, hl⟩ : ∃ l, l = s.data.toList := ⟨_, rfl⟩
    rw [← hl] at hc HV ⊢
    have HC := Lib.hid hc
    have HL := Lib.hid hl
    clear hc hl
    go_enter Tryz.func25, Tryz.ntmps25
    go_upto_if 12 with (fail)
    go_cut [0, 4] from 7 (fun sv gv wx => ∃ (t : ByteArray) (sg : Int), sv = .string t ∧ gv = .int .i64 sg ∧ Hid (VaIs l t sg) ∧ Below w.heap.size w wx)
    case first =>
      by_cases hneg : (s[0]'h0) = 45
      · have hq : (((s[0]'h0).toNat : Int) == 45) = true := by rw [hneg]; rfl
        have HS := Lib.hid (show ∀ t : ByteArray, t = s.extract 1 s.size → VaIs l t (-1) by
          rintro t rfl
          rcases can_cases HC.out with ⟨h1, -⟩ | ⟨r, h1, h2, -, h3⟩
          · exfalso
            apply natB_head h1
            rw [HL.out, List.head?_eq_getElem?, List.getElem?_eq_getElem (by rw [wlen_list]; exact h0), wat_list s 0 h0, hneg]
          · have he := wext_list s (HL.out.symm.trans h1)
            refine ⟨by rw [he]; exact natB_digits h2, ?_, by rw [he, h3]; omega, .inr rfl⟩
            have := wlen_list (s.extract 1 s.size)
            rw [he] at this
            have h5 := wlen_list s
            rw [← HL.out, h1, List.length_cons] at h5
            omega)
        clear hneg
        go_wp2_with fail
        go_region
        all_goals
          go_wp2_with fail
          go_meet
          exact ⟨_, -1, rfl, rfl, Lib.hid (HS.out _ rfl), drew_below w⟩
      · have hq : (((s[0]'h0).toNat : Int) == 45) = false := by
          rw [beq_eq_false_iff_ne]; intro e; apply hneg; rw [← UInt8.toNat_inj]; show _ = 45; omega
        have HS := Lib.hid (show VaIs l s 1 by
          rcases can_cases HC.out with ⟨h1, h3⟩ | ⟨r, h1, -, -, -⟩
          · refine ⟨by rw [← HL.out]; exact natB_digits h1, by omega, by rw [← HL.out, h3]; omega, .inl rfl⟩
          · exfalso
            apply hneg
            have := wat_list s 0 h0
            rw [← this]
            simp only [← HL.out, h1, List.getElem_cons_zero])
        clear hneg
        go_wp2_with fail
        go_meet
        exact ⟨_, 1, rfl, rfl, HS, Below.refl _ _⟩
    case rest =>
      obtain ⟨t, sg, rfl, rfl, HT, hb⟩ := hcut
      have HB := Lib.hid hb
      have hts := HT.out.2.1
      clear hb hi h0
      go_wp2_with fail
      go_loop [5, 6] (fun nv i => ∃ k : Nat, k ≤ t.size ∧ i = .int .i64 k ∧ nv = .int .i64 ((dval (t.data.toList.take k) : Nat) : Int)) (fun _ i => t.size - (intOf i).toNat)
      case atStart => exact ⟨0, Nat.zero_le _, rfl, rfl⟩
      case round =>
        obtain ⟨k, hk, rfl, rfl⟩ := hrel
        have hpw : dval (t.data.toList.take k) < 100000000000 := by
          have h1 := dval_lt (all_take HT.out.1 k)
          have h2 : (t.data.toList.take k).length ≤ 11 := by rw [List.length_take, wlen_list]; omega
          exact Nat.lt_of_lt_of_le h1 (pow11 h2)
        by_cases hlt : k < t.size
        · have hdg := isDg_bd (List.all_eq_true.1 HT.out.1 (t[k]'hlt) (by rw [← wat_list t k hlt]; exact List.getElem_mem _))
          have hst := take_dval t k hlt
          obtain ⟨m, hm⟩ : ∃ m, m = dval (t.data.toList.take k) := ⟨_, rfl⟩
          obtain ⟨c, hcc⟩ : ∃ c : Nat, c = (t[k]'hlt).toNat := ⟨_, rfl⟩
          rw [← hm] at hpw hst ⊢
          rw [← hcc] at hdg hst
          have hc2 : ((t[k]'hlt).toNat : Int) = (c : Int) := by rw [hcc]
          have hw1 : IntKind.u8.wrap ((c : Int) - 48) = (c : Int) - 48 := by rw [IntKind.wrap_u8]; omega
          have HST := Lib.hid (show ((dval (t.data.toList.take (k + 1)) : Nat) : Int) = (m : Int) * 10 + ((c : Int) - 48) by rw [hst]; omega)
          have g1 : 48 ≤ (c : Int) := by omega
          have g2 : (c : Int) ≤ 57 := by omega
          have g3 : (m : Int) < 100000000000 := by omega
          clear hm hcc hst hdg hpw
          go_wp2_with fail
          go_round
          case rel => exact ⟨k + 1, by omega, by go_num, by rw [HST.out]⟩
          case measure => simp [intOf]; omega
        · obtain rfl : k = t.size := by omega
          rw [List.take_of_length_le (by rw [wlen_list]; exact Nat.le_refl _)] at hpw ⊢
          have hv := HT.out.2.2.1
          obtain ⟨m, hm⟩ : ∃ m, m = dval t.data.toList := ⟨_, rfl⟩
          rw [← hm] at hpw hv ⊢
          have g3 : (m : Int) < 100000000000 := by omega
          rcases HT.out.2.2.2 with h | h
          · subst h
            have HE := Lib.hid (show entB (intV l) = decide ((m : Int) ≤ 1000000000) by rw [hv]; unfold entB; rw [Bool.eq_iff_iff]; simp)
            have HM := Lib.hid (show valV l = (m : Int) by rw [HV.out, hv]; omega)
            clear hv hm hpw
            by_cases hle : (m : Int) ≤ 1000000000
            · go_wp2_with fail
              go_ret2
              exact ⟨ret_ib HM.out.symm (by rw [HE.out]; simp [hle]), HB.out⟩
            · have hle2 : (1000000000 : Int) < m := by omega
              go_wp2_with fail
              go_ret2
              exact ⟨ret_ib HM.out.symm (by rw [HE.out]; simp; omega), HB.out⟩
          · subst h
            have HE := Lib.hid (show entB (intV l) = decide ((m : Int) ≤ 1000000000) by rw [hv]; unfold entB; rw [Bool.eq_iff_iff]; simp)
            have HM := Lib.hid (show valV l = -(m : Int) by rw [HV.out, hv]; omega)
            clear hv hm hpw
            by_cases hle : (m : Int) ≤ 1000000000
            · go_wp2_with fail
              go_ret2
              exact ⟨ret_ib (by rw [HM.out]) (by rw [HE.out]; simp [hle]), HB.out⟩
            · have hle2 : (1000000000 : Int) < m := by omega
              go_wp2_with fail
              go_ret2
              exact ⟨ret_ib (by rw [HM.out]) (by rw [HE.out]; simp; omega), HB.out⟩
end Go.Proofs.YtkpaopfdnfgjeaaGreatDoor
