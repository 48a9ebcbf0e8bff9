/-
  The reference's limbs and join.
-/
import Derived.Test.YtfhmdlpjeiockaaDoorRefAdd
namespace Go.Proofs.YtfhmdlpjeiockaaDoor
open Go.RowKit

theorem sub_step_val (s : ByteArray) (i a : Nat) (h : i < s.size) (ha : a ≤ i) : val ((s.data.toList.take (i + 1)).drop a) = val ((s.data.toList.take i).drop a) * 10 + ((s[i]'h).toNat - 48) := by
  rw [List.take_succ_eq_append_getElem (by rw [len_list]; exact h), List.drop_append_of_le_length (by rw [List.length_take, len_list]; omega), val_snoc, at_list s i h]; omega
theorem sub_lt {s : ByteArray} (hd : s.data.toList.all isD = true) (i a : Nat) (hi : i ≤ s.size) : val ((s.data.toList.take i).drop a) < 10 ^ (i - a) := by
  have h1 := val_lt _ (all_sub hd a i)
  rw [List.length_drop, List.length_take, len_list, Nat.min_eq_left hi] at h1; exact h1

set_option maxHeartbeats 3200000 in
set_option maxRecDepth 100000 in
theorem limbs_any (x : Nat) (w : World) (hs : (str x).size ≤ 450000) :
    Calls Tryd.prog 30 #[.string (str x)] w fun e w' => ∃ (g cap : Nat) (p : List Nat), e = .returned (.slice (some ⟨g, 0, none⟩) p.length cap) ∧ lt9 p ∧ pv p = x ∧ p.length ≤ 50001 ∧ Row w' w.heap.size g cap p ∧ Below w.heap.size w w' := by
  obtain ⟨i0, hi, hz0, hz1, hz2⟩ := info_parts info64
  have hs0 : 0 < (str x).size := by rw [str_size]; exact Lib.nDigits_pos x
  have hv : val (str x).data.toList = x := val_str x
  have hd : (str x).data.toList.all isD = true := by rw [str_list]; exact all_dd x
  obtain ⟨s, hse⟩ : ∃ s, s = str x := ⟨_, rfl⟩
  rw [← hse] at hs hs0 hv hd ⊢
  have HV := Lib.hid hv
  have HA := Lib.hid hd
  have HD := Lib.hid (show ∀ k (h : k < s.size), isD (s[k]'h) = true from fun k h => by
    rw [← at_list s k h]; exact List.all_eq_true.1 hd _ (List.getElem_mem _))
  clear hse hv hd
  go_enter Tryd.func30, Tryd.ntmps30
  go_wp2_with fail
  go_loopw [3, 4, 5, 6] (fun v ev _ _ wr => ∃ (k vc : Nat) (vo : Option Addr) (L : List Nat) (E : Int), v = .slice vo L.length vc ∧ ev = .int .i64 E ∧ -9 < E ∧ E ≤ s.size ∧ L.length ≤ 50001 ∧ wr.ownsRow w.heap.size 37 1 (.slice vo L.length vc) L.length (c64 L) ∧ Below w.heap.size w wr ∧ Hid (L.length = k ∧ E = (s.size : Int) - 9 * k ∧ lt9 L ∧ pv L = val (s.data.toList.drop (s.size - 9 * k)))) (fun _ ev _ _ _ => (intOf ev).toNat)
  case atStart => exact ⟨0, 0, none, [], s.size, rfl, rfl, by omega, by omega, by simp, World.ownsRow_nil _ _ _ _, Below.refl _ _, rfl, by simp, by simp [lt9], by rw [List.drop_of_length_le (by rw [len_list]; omega)]; rfl⟩
  case round =>
    obtain ⟨k, vc, vo, L, E, rfl, rfl, hE1, hE2, hL, hown, hbel, HH⟩ := hrel
    by_cases hE : 0 < E
    · obtain ⟨e, rfl⟩ : ∃ e : Nat, E = e := ⟨E.toNat, by omega⟩
      obtain ⟨hk, hEk, h9, hpv⟩ := HH.out
      have hes : e ≤ s.size := by omega
      have hLb : L.length ≤ 50000 := by omega
      have hmax : max ((e : Int) - 9) 0 = ((e - 9 : Nat) : Int) := by omega
      obtain ⟨a, ha⟩ : ∃ a, a = e - 9 := ⟨_, rfl⟩
      have hae : a < e := by omega
      have hae9 : e ≤ a + 9 := by omega
      have hstep := cut_step s.data.toList e (by rw [len_list]; omega) L (by rw [hpv]; congr 2; omega) (by rw [len_list]; omega)
      rw [← ha] at hmax hstep
      have HSTEP := Lib.hid hstep
      have HEK := Lib.hid hEk
      have HK := Lib.hid hk
      have H9 := Lib.hid h9
      have HAE := Lib.hid ha
      have HO := Lib.hid hown
      have HB := Lib.hid hbel
      have hbs := hbel.size
      clear hk hEk h9 hpv HH hstep ha hown hbel
      go_wp2_with fail
      obtain ⟨wo, rfl⟩ : ∃ wo : World, wo = wr := ⟨_, rfl⟩
      go_loop [5, 6] (fun n i => ∃ j v : Nat, a ≤ j ∧ j ≤ e ∧ i = .int .i64 j ∧ n = .int .u64 v ∧ v < 1000000000 ∧ Hid (v = val ((s.data.toList.take j).drop a))) (fun _ i => e - (intOf i).toNat)
      case atStart => exact ⟨a, 0, Nat.le_refl _, by omega, rfl, rfl, by omega, by show _ = _; rw [List.drop_of_length_le (by rw [List.length_take]; omega)]; rfl⟩
      case round =>
        obtain ⟨j, v, hj1, hj2, rfl, rfl, hv9, HW⟩ := hrel
        by_cases hlt : j < e
        · have hjs : j < s.size := by omega
          have h1 := isD_lt (HD.out j hjs)
          have h2 := sub_lt HA.out j a (by omega)
          have h3 : 10 ^ (j - a) ≤ 10 ^ 8 := Nat.pow_le_pow_right (by decide) (by omega)
          have hv0 := HW.out
          have g0 : v < 100000000 := by rw [hv0]; omega
          have g1 : 48 ≤ (s[j].toNat : Int) := by omega
          have g2 : (s[j].toNat : Int) ≤ 57 := by omega
          have HT := Lib.hid (sub_step_val s j a hjs hj1)
          clear h1 h2 h3 hv0
          go_wp2_with fail
          all_goals go_round
          case rel => exact ⟨j + 1, v * 10 + (s[j].toNat - 48), by omega, by omega, by go_num, by go_num, by omega, by show _ = _; rw [HT.out, HW.out]⟩
          case measure => simp [intOf] <;> omega
        · obtain rfl : j = e := by omega
          go_wp2_with (at_builtin; refine wpList_append_own _ rfl _ _ 46 rfl w.heap.size 37 i0 (.int .u64 0) 1 8 Tryd.underlying46 hi hz0 hz1 hz2 rfl (by decide) _ _ _ rfl (World.ownsRow.alloc HO.out _) ⟨wo.heap.size, 0, none⟩ 1 1 [.int .u64 (v : Int)] rfl rfl ?c1 ?c2 ?c3 ?c4 ?c5 ?_)
          case c2 => rfl
          case c3 => unfold maxLen; omega
          case c4 => omega
          case c5 => omega
          · intro v' w2 hown' hgrow _
            obtain ⟨g', cap', rfl⟩ := own_some hown' (by omega)
            have hl' : (L ++ [v]).length = L.length + 1 := by simp
            have hown2 : w2.ownsRow w.heap.size 37 1 (.slice (some ⟨g', 0, none⟩) (L ++ [v]).length cap') (L ++ [v]).length (c64 (L ++ [v])) := by
              rw [hl', c64_append]; exact hown'
            have hbel2 : Below w.heap.size w w2 := ((HB.out.alloc hbs _).grown hgrow (by simp; omega) (by intro q hq; exact (World.ownsRow.lt HO.out q hq).1))
            have HO2 := Lib.hid hown2
            have HB2 := Lib.hid hbel2
            have HL' := Lib.hid hl'
            clear hown' hgrow hl' hown2 hbel2
            go_wp2_with fail
            all_goals go_roundw
            case rel =>
              refine ⟨k + 1, cap', some ⟨g', 0, none⟩, L ++ [v], (j : Int) - 9, by rw [HL'.out], rfl, by omega, by omega, by rw [HL'.out]; omega, HO2.out, HB2.out, by rw [HL'.out, HK.out], by rw [HEK.out]; omega, lt9_snoc H9.out hv9, ?_⟩
              rw [HW.out, HSTEP.out, HAE.out]; congr 2; have := HEK.out; omega
            case measure => simp [intOf] <;> omega
    · obtain ⟨hk, hEk, h9, hpv⟩ := HH.out
      have hz : s.size - 9 * k = 0 := by omega
      have hk0 : 0 < L.length := by omega
      rw [hz, List.drop_zero, HV.out] at hpv
      obtain ⟨g, cp, hvv⟩ := own_some hown hk0
      have hvo : vo = some ⟨g, 0, none⟩ := by cases hvv; rfl
      subst hvo
      have HF := Lib.hid (show lt9 L ∧ pv L = x ∧ Row wr w.heap.size g vc L ∧ Below w.heap.size w wr from ⟨h9, hpv, hown, hbel⟩)
      clear hz hpv hown hbel hvv h9 hk hEk HH
      go_wp2_with fail
      go_ret
      exact ⟨g, vc, L, rfl, HF.out.1, HF.out.2.1, hL, HF.out.2.2.1, HF.out.2.2.2⟩
end Go.Proofs.YtfhmdlpjeiockaaDoor
