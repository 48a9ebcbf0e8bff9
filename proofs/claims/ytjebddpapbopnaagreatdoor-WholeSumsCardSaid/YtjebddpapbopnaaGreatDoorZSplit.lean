/-
  The reference of package whole: split.
-/
import Derived.Test.YtjebddpapbopnaaGreatDoorZPlus
namespace Go.Proofs.YtjebddpapbopnaaGreatDoor
open Go.RowKit

theorem drop_take_snoc {s : ByteArray} {f j : Nat} (hf : f ≤ j) (hj : j < s.size) : (s.data.toList.take (j + 1)).drop f = (s.data.toList.take j).drop f ++ [s[j]'hj] := by
  rw [List.take_add_one, List.getElem?_eq_getElem (by rw [len_list]; exact hj), at_list s j hj, Option.toList_some, List.drop_append_of_le_length]
  rw [List.length_take, len_list]; omega
theorem isD_at {s : ByteArray} (h : s.data.toList.all isD = true) (j : Nat) (hj : j < s.size) : isD (s[j]'hj) = true := by
  have hm : (s[j]'hj) ∈ s.data.toList := by rw [← at_list s j hj]; exact List.getElem_mem _
  exact List.all_eq_true.1 h _ hm
theorem part_lt {s : ByteArray} (h : s.data.toList.all isD = true) (f j : Nat) : val ((s.data.toList.take j).drop f) < 10 ^ (j - f) := by
  have h1 := val_lt ((s.data.toList.take j).drop f) (all_sub h f j)
  have h2 : ((s.data.toList.take j).drop f).length ≤ j - f := by rw [List.length_drop, List.length_take]; omega
  exact Nat.lt_of_lt_of_le h1 (Nat.pow_le_pow_right (by decide) h2)
theorem split_val {u : ByteArray} {f : Nat} (hf : f ≤ u.size) (h : f = 0 ∨ u.size = f + 9) (P : Nat) :
    val u.data.toList * P = val (u.data.toList.take f) * (P * 1000000000) + P * val (u.data.toList.drop f) := by
  have h1 := val_append (u.data.toList.take f) (u.data.toList.drop f)
  rw [List.take_append_drop] at h1
  rcases h with h | h
  · subst h
    rw [List.take_zero, List.drop_zero, val_nil, Nat.zero_mul, Nat.zero_add, Nat.mul_comm]
  · have hl : (u.data.toList.drop f).length = 9 := by rw [List.length_drop, len_list]; omega
    rw [h1, hl, Nat.add_mul, Nat.mul_assoc, Nat.mul_comm (10 ^ 9) P, Nat.mul_comm (val (u.data.toList.drop f)) P]
set_option maxHeartbeats 3200000 in
set_option maxRecDepth 100000 in
theorem splitZ_any (s : ByteArray) (w : World) (hd : s.data.toList.all isD = true) (hs : s.size ≤ 100000) :
    Calls Tryz.prog 62 #[.string s] w fun e w' => ∃ (o : Option Addr) (c : Nat) (r : List Nat), e = .returned (.slice o r.length c) ∧ Pd w' o c r ∧ Pcs r (val s.data.toList) ∧ Below w.heap.size w w' := by
  obtain ⟨i0, hi, hz0, hz1, hz2⟩ := info_parts infoZ
  obtain ⟨a, ha⟩ : ∃ a, a = val s.data.toList := ⟨_, rfl⟩
  rw [← ha]
  have HD0 := Lib.hid hd
  have HA := Lib.hid ha
  clear hd ha
  go_enter Tryz.func62, Tryz.ntmps62
  go_wp2_with fail
  go_loopw [0, 3, 4, 5, 6] (fun sv ov _ _ _ wr => ∃ (u : ByteArray) (vo : Option Addr) (vc : Nat) (L : List Nat), sv = .string u ∧ ov = .slice vo L.length vc ∧ u.size ≤ 100000 ∧ L.length + u.size ≤ 100000 ∧ Hid (u.data.toList.all isD = true ∧ lt9 L ∧ val u.data.toList * 1000000000 ^ L.length + pv L = a) ∧ Hid (Ow wr w.heap.size vo vc L) ∧ Hid (Below w.heap.size w wr)) (fun sv _ _ _ _ _ => match sv with | .string u => u.size | _ => 0)
  case atStart => exact ⟨s, none, 0, [], rfl, rfl, hs, by simp; omega, ⟨HD0.out, by simp [lt9], by simp [pv, HA.out]⟩, Ow.nil _ _, Below.refl _ _⟩
  case round =>
    obtain ⟨u, vo, vc, L, rfl, rfl, hul, hLl, HI, HO, HB⟩ := hrel
    have hbs := HB.out.size
    by_cases hu0 : u.size = 0
    · have hI := HI.out.2.2
      have hnil : u.data.toList = [] := by have := len_list u; rw [hu0] at this; exact List.length_eq_zero_iff.1 this
      rw [hnil, val_nil, Nat.zero_mul, Nat.zero_add] at hI
      have hgt : ¬ (0 : Int) < u.size := by omega
      have HPD := Lib.hid (HO.out.pd HI.out.2.1)
      have HPC := Lib.hid (show Pcs (trimP L) a by have := Pcs.of_trim HI.out.2.1; rw [hI] at this; exact this)
      have HT := Lib.hid (fun wx h => trimZ_any vo vc L wx h)
      clear hI hnil hu0
      go_wp2_with fail
      refine (HT.out _ HPD.out).mono ?_
      rintro e w' ⟨rfl, rfl⟩
      go_wp2_with fail
      go_ret
      exact ⟨vo, vc, trimP L, rfl, HPD.out.trim, HPC.out, HB.out⟩
    · have hup : (0 : Int) < u.size := by omega
      obtain ⟨f, hf⟩ : ∃ f, f = u.size - 9 := ⟨_, rfl⟩
      have hfu : f ≤ u.size := by omega
      have hf9 : u.size ≤ f + 9 := by omega
      have HSV := Lib.hid (split_val hfu (by omega) (1000000000 ^ L.length))
      have HF := Lib.hid (show f < u.size by omega)
      by_cases h9 : 9 < u.size
      · have h9i : (9 : Int) < u.size := by omega
        have hfi : (u.size : Int) - 9 = (f : Int) := by omega
        clear hf hu0 h9
        go_wp2_with fail
        go_loop [5, 6] (fun nv iv => ∃ j v : Nat, iv = .int .i64 (j : Int) ∧ f ≤ j ∧ j ≤ u.size ∧ nv = .int .i64 (v : Int) ∧ Hid (v = val ((u.data.toList.take j).drop f))) (fun _ iv => u.size - (intOf iv).toNat)
        case atStart => exact ⟨f, 0, rfl, Nat.le_refl _, hfu, rfl, by show _ = _; rw [List.drop_of_length_le (by rw [List.length_take]; omega)]; rfl⟩
        case round =>
          obtain ⟨j, v, rfl, hfj, hju, rfl, HV⟩ := hrel
          by_cases hlt : j < u.size
          · have hdj := isD_lt (isD_at HI.out.1 j hlt)
            have hvb := part_lt HI.out.1 f j
            rw [← HV.out] at hvb
            have hpw : 10 ^ (j - f) ≤ 10 ^ 8 := Nat.pow_le_pow_right (by decide) (by omega)
            have hv8 : v < 100000000 := by omega
            obtain ⟨d, hd⟩ : ∃ d : Nat, d = u[j].toNat - 48 := ⟨_, rfl⟩
            have hd1 : ((u[j].toNat : Int) - 48) = (d : Int) := by omega
            have g1 : 48 ≤ (u[j].toNat : Int) := by omega
            have g2 : (u[j].toNat : Int) ≤ 57 := by omega
            have hd9 : d ≤ 9 := by omega
            have HV2 := Lib.hid (show 10 * v + d = val ((u.data.toList.take (j + 1)).drop f) by rw [drop_take_snoc hfj hlt, val_snoc, ← HV.out, hd])
            have wc := IntWalk.i64_in (d : Int) ⟨by omega, by omega⟩
            have wu : IntKind.u8.wrap (d : Int) = (d : Int) := by rw [IntKind.wrap_u8]; omega
            clear hdj hvb hpw hd HV
            go_wp2_with fail
            all_goals go_round
            case rel => exact ⟨j + 1, 10 * v + d, by go_num, by omega, by omega, by go_num, HV2⟩
            case measure => simp [intOf] <;> omega
          · have hjs : j = u.size := by omega
            have hvv := HV.out
            rw [hjs, List.take_of_length_le (by rw [len_list]; omega)] at hvv
            have hv9 : v < 1000000000 := by
              have h1 := part_lt HI.out.1 f u.size
              rw [List.take_of_length_le (by rw [len_list]; omega), ← hvv] at h1
              exact Nat.lt_of_lt_of_le h1 (Nat.le_trans (Nat.pow_le_pow_right (by decide) (by omega)) (show 10 ^ 9 ≤ 1000000000 by decide))
            have HI2 := Lib.hid (show (u.extract 0 f).data.toList.all isD = true ∧ lt9 (L ++ [v]) ∧ val (u.extract 0 f).data.toList * 1000000000 ^ (L ++ [v]).length + pv (L ++ [v]) = a by
              have e : (u.extract 0 f).data.toList = u.data.toList.take f := by rw [ext_list, List.drop_zero]
              refine ⟨by rw [e]; exact List.all_eq_true.2 fun x hx => List.all_eq_true.1 HI.out.1 x (List.mem_of_mem_take hx), lt9_snoc HI.out.2.1 hv9, ?_⟩
              have h3 := HI.out.2.2
              rw [HSV.out, ← hvv] at h3
              rw [e, List.length_append, pv_snoc]
              show val (List.take f u.data.toList) * 1000000000 ^ (L.length + 1) + _ = a
              rw [Nat.pow_succ]; omega)
            have HES := Lib.hid (show (u.extract 0 f).size = f by rw [ByteArray.size_extract]; omega)
            clear hjs hvv HI HSV HV
            go_wp2_with (at_builtin; refine wpList_append_own _ rfl _ _ 68 rfl w.heap.size 3 i0 (.int .i64 0) 1 8 Tryz.underlying68 hi hz0 hz1 hz2 rfl (by decide) _ _ _ rfl (World.ownsRow.alloc HO.out _) ⟨wr.heap.size, 0, none⟩ 1 1 [.int .i64 (v : Int)] rfl rfl (lies1 _ _) (ones1 _) (by unfold maxLen; omega) (by omega) (by first | omega | (simp; omega)) ?_)
            intro v' w2 hown' hgrow _
            obtain ⟨g', cap', rfl, how⟩ := Ow.snoc (L := L) (x := v) hown' (by omega) (by first | rfl | (simp [cI]))
            have hbel2 : Below w.heap.size w w2 := (HB.out.alloc hbs _).grown hgrow (by simp; omega) (by intro q hq; exact (World.ownsRow.lt HO.out q hq).1)
            have HW2 := Lib.hid how
            have HB2 := Lib.hid hbel2
            have hln : ((L ++ [v]).length) = L.length + 1 := by simp
            have HLN := Lib.hid hln
            clear hown' hgrow how hbel2 hln
            go_wp2_with fail
            all_goals go_roundw
            case rel => exact ⟨u.extract 0 f, some ⟨g', 0, none⟩, cap', L ++ [v], rfl, rfl, by rw [HES.out]; omega, by rw [HES.out, HLN.out]; have := HF.out; omega, HI2, HW2, HB2⟩
            case measure => show (u.extract 0 f).size < u.size; rw [HES.out]; exact HF.out
      · have h9i : ¬ (9 : Int) < u.size := by omega
        obtain rfl : f = 0 := by omega
        clear hf hu0 h9
        go_wp2_with fail
        go_loop [5, 6] (fun nv iv => ∃ j v : Nat, iv = .int .i64 (j : Int) ∧ 0 ≤ j ∧ j ≤ u.size ∧ nv = .int .i64 (v : Int) ∧ Hid (v = val ((u.data.toList.take j).drop 0))) (fun _ iv => u.size - (intOf iv).toNat)
        case atStart => exact ⟨0, 0, rfl, Nat.le_refl _, hfu, rfl, by show _ = _; rw [List.drop_of_length_le (by rw [List.length_take]; omega)]; rfl⟩
        case round =>
          obtain ⟨j, v, rfl, hfj, hju, rfl, HV⟩ := hrel
          by_cases hlt : j < u.size
          · have hdj := isD_lt (isD_at HI.out.1 j hlt)
            have hvb := part_lt HI.out.1 0 j
            rw [← HV.out] at hvb
            have hpw : 10 ^ (j - 0) ≤ 10 ^ 8 := Nat.pow_le_pow_right (by decide) (by omega)
            have hv8 : v < 100000000 := by omega
            obtain ⟨d, hd⟩ : ∃ d : Nat, d = u[j].toNat - 48 := ⟨_, rfl⟩
            have hd1 : ((u[j].toNat : Int) - 48) = (d : Int) := by omega
            have g1 : 48 ≤ (u[j].toNat : Int) := by omega
            have g2 : (u[j].toNat : Int) ≤ 57 := by omega
            have hd9 : d ≤ 9 := by omega
            have HV2 := Lib.hid (show 10 * v + d = val ((u.data.toList.take (j + 1)).drop 0) by rw [drop_take_snoc hfj hlt, val_snoc, ← HV.out, hd])
            have wc := IntWalk.i64_in (d : Int) ⟨by omega, by omega⟩
            have wu : IntKind.u8.wrap (d : Int) = (d : Int) := by rw [IntKind.wrap_u8]; omega
            clear hdj hvb hpw hd HV
            go_wp2_with fail
            all_goals go_round
            case rel => exact ⟨j + 1, 10 * v + d, by go_num, by omega, by omega, by go_num, HV2⟩
            case measure => simp [intOf] <;> omega
          · have hjs : j = u.size := by omega
            have hvv := HV.out
            rw [hjs, List.take_of_length_le (by rw [len_list]; omega)] at hvv
            have hv9 : v < 1000000000 := by
              have h1 := part_lt HI.out.1 0 u.size
              rw [List.take_of_length_le (by rw [len_list]; omega), ← hvv] at h1
              exact Nat.lt_of_lt_of_le h1 (Nat.le_trans (Nat.pow_le_pow_right (by decide) (by omega)) (show 10 ^ 9 ≤ 1000000000 by decide))
            have HI2 := Lib.hid (show (u.extract 0 0).data.toList.all isD = true ∧ lt9 (L ++ [v]) ∧ val (u.extract 0 0).data.toList * 1000000000 ^ (L ++ [v]).length + pv (L ++ [v]) = a by
              have e : (u.extract 0 0).data.toList = u.data.toList.take 0 := by rw [ext_list, List.drop_zero]
              refine ⟨by rw [e]; exact List.all_eq_true.2 fun x hx => List.all_eq_true.1 HI.out.1 x (List.mem_of_mem_take hx), lt9_snoc HI.out.2.1 hv9, ?_⟩
              have h3 := HI.out.2.2
              rw [HSV.out, ← hvv] at h3
              rw [e, List.length_append, pv_snoc]
              show val (List.take 0 u.data.toList) * 1000000000 ^ (L.length + 1) + _ = a
              rw [Nat.pow_succ]; omega)
            have HES := Lib.hid (show (u.extract 0 0).size = 0 by rw [ByteArray.size_extract]; omega)
            have HEM := Lib.hid (show u.extract 0 0 = ByteArray.empty by simp)
            clear hjs hvv HI HSV HV
            go_wp2_with (at_builtin; refine wpList_append_own _ rfl _ _ 68 rfl w.heap.size 3 i0 (.int .i64 0) 1 8 Tryz.underlying68 hi hz0 hz1 hz2 rfl (by decide) _ _ _ rfl (World.ownsRow.alloc HO.out _) ⟨wr.heap.size, 0, none⟩ 1 1 [.int .i64 (v : Int)] rfl rfl (lies1 _ _) (ones1 _) (by unfold maxLen; omega) (by omega) (by first | omega | (simp; omega)) ?_)
            intro v' w2 hown' hgrow _
            obtain ⟨g', cap', rfl, how⟩ := Ow.snoc (L := L) (x := v) hown' (by omega) (by first | rfl | (simp [cI]))
            have hbel2 : Below w.heap.size w w2 := (HB.out.alloc hbs _).grown hgrow (by simp; omega) (by intro q hq; exact (World.ownsRow.lt HO.out q hq).1)
            have HW2 := Lib.hid how
            have HB2 := Lib.hid hbel2
            have hln : ((L ++ [v]).length) = L.length + 1 := by simp
            have HLN := Lib.hid hln
            clear hown' hgrow how hbel2 hln
            go_wp2_with fail
            all_goals go_roundw
            case rel => exact ⟨ByteArray.empty, some ⟨g', 0, none⟩, cap', L ++ [v], rfl, rfl, by rw [← HEM.out, HES.out]; omega, by rw [← HEM.out, HES.out, HLN.out]; have := HF.out; omega, by rw [← HEM.out]; exact HI2, HW2, HB2⟩
            case measure => show ByteArray.empty.size < u.size; rw [← HEM.out, HES.out]; exact HF.out
end Go.Proofs.YtjebddpapbopnaaGreatDoor
