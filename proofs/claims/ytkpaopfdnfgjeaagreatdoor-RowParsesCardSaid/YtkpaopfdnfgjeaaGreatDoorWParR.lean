/-
  The reference's Parse.
-/
import Derived.Test.YtkpaopfdnfgjeaaGreatDoorWParR0
import Derived.Test.YtkpaopfdnfgjeaaGreatDoorWParW
namespace Go.Proofs.YtkpaopfdnfgjeaaGreatDoor
open Go.RowKit

theorem valV_bd (x : List UInt8) : canB x = true → -100000000000 ≤ valV x ∧ valV x ≤ 100000000000 := by
  intro hc
  unfold valV
  by_cases h : 11 < x.length
  · rw [if_pos h]; omega
  · rw [if_neg h]
    rcases can_cases hc with ⟨h1, e1⟩ | ⟨r, h0, h1, -, e1⟩
    · have h2 := dval_lt (natB_digits h1)
      have h3 := pow11 (k := x.length) (by omega)
      rw [e1]; omega
    · have h2 := dval_lt (natB_digits h1)
      have h4 : x.length = r.length + 1 := by rw [h0]; rfl
      have h3 := pow11 (k := r.length) (by omega)
      rw [e1]; omega
theorem bool15 {w : World} : ParP [] false 15 w (.returned (.tuple #[.slice none 0 0, .bool false, .int .i64 15])) w := ⟨none, 0, 0, rfl, Rd.nil _, Below.refl _ _⟩
theorem byte_ne {c : UInt8} {n : Nat} (h : c ≠ UInt8.ofNat n) (hn : n < 256) : ¬ (c.toNat : Int) = (n : Int) := by
  intro e; apply h; rw [← UInt8.toNat_inj]; simp; omega
set_option maxHeartbeats 1600000 in
set_option maxRecDepth 100000 in
theorem parR_short (s : ByteArray) (w : World) (h2 : s.size < 2) :
    Calls Tryz.prog 11 #[.string s] w (ParP [] false 15 w) := by
  have i1 : (s.size : Int) < 2 := by omega
  go_enter Tryz.func11, Tryz.ntmps11
  go_wp2_with fail
  go_ret3
  exact bool15
set_option maxHeartbeats 1600000 in
set_option maxRecDepth 100000 in
theorem parR_no (s : ByteArray) (w : World) (h2 : 2 ≤ s.size) (hs : s.size ≤ 200) (h3 : ¬ ((s[0]'(by omega)) = 91 ∧ (s[s.size - 1]'(by omega)) = 62)) (h4 : ¬ ((s[0]'(by omega)) = 60 ∧ (s[s.size - 1]'(by omega)) = 93)) :
    Calls Tryz.prog 11 #[.string s] w (ParP [] false 15 w) := by
  have i1 : ¬ (s.size : Int) < 2 := by omega
  have i2 : 0 < s.size := by omega
  have i3 : (0 : Int) ≤ (s.size : Int) - 1 := by omega
  have i4 : (s.size : Int) - 1 < s.size := by omega
  by_cases a : (s[0]'i2) = 91
  · have b : (s[s.size - 1]'(by omega)) ≠ 62 := fun e => h3 ⟨a, e⟩
    have a1 : ((s[0]'i2).toNat : Int) = 91 := by rw [a]; rfl
    have b1 : ¬ ((s[s.size - 1]'(by omega)).toNat : Int) = 62 := byte_ne (n := 62) b (by decide)
    have b2 : (((s[s.size - 1]'(by omega)).toNat : Int) == 62) = false := by rw [beq_eq_false_iff_ne]; exact b1
    clear h3 h4 a b
    go_enter Tryz.func11, Tryz.ntmps11
    go_wp2_with fail
    go_ret3
    exact bool15
  · have a1 : ¬ ((s[0]'i2).toNat : Int) = 91 := byte_ne (n := 91) a (by decide)
    by_cases c : (s[0]'i2) = 60
    · have b : (s[s.size - 1]'(by omega)) ≠ 93 := fun e => h4 ⟨c, e⟩
      have c1 : ((s[0]'i2).toNat : Int) = 60 := by rw [c]; rfl
      have b1 : ¬ ((s[s.size - 1]'(by omega)).toNat : Int) = 93 := byte_ne (n := 93) b (by decide)
      have b2 : (((s[s.size - 1]'(by omega)).toNat : Int) == 93) = false := by rw [beq_eq_false_iff_ne]; exact b1
      clear h3 h4 a b c
      go_enter Tryz.func11, Tryz.ntmps11
      go_wp2_with fail
      go_ret3
      exact bool15
    · have c1 : ¬ ((s[0]'i2).toNat : Int) = 60 := byte_ne (n := 60) c (by decide)
      clear h3 h4 a c
      go_enter Tryz.func11, Tryz.ntmps11
      go_wp2_with fail
      go_ret3
      exact bool15

/-- the two kinds of brackets -/
theorem front_facts {s : ByteArray} (h2 : 2 ≤ s.size) {k : Bool} (hk : if k = true then (s[0]'(by omega)) = 91 ∧ (s[s.size - 1]'(by omega)) = 62 else (s[0]'(by omega)) = 60 ∧ (s[s.size - 1]'(by omega)) = 93) :
    (k = true ∧ ((s[0]'(by omega)).toNat : Int) = 91 ∧ ((s[s.size - 1]'(by omega)).toNat : Int) = 62) ∨ (k = false ∧ ((s[0]'(by omega)).toNat : Int) = 60 ∧ ((s[s.size - 1]'(by omega)).toNat : Int) = 93) := by
  cases k with
  | true => rw [if_pos rfl] at hk; left; exact ⟨rfl, by rw [hk.1]; rfl, by rw [hk.2]; rfl⟩
  | false => rw [if_neg (by decide)] at hk; right; exact ⟨rfl, by rw [hk.1]; rfl, by rw [hk.2]; rfl⟩

set_option maxHeartbeats 1600000 in
set_option maxRecDepth 100000 in
theorem parR_two (s : ByteArray) (w : World) (k : Bool) (h2 : 2 ≤ s.size) (h2' : s.size ≤ 2) (hk : (k = true ∧ ((s[0]'(by omega)).toNat : Int) = 91 ∧ ((s[s.size - 1]'(by omega)).toNat : Int) = 62) ∨ (k = false ∧ ((s[0]'(by omega)).toNat : Int) = 60 ∧ ((s[s.size - 1]'(by omega)).toNat : Int) = 93)) :
    Calls Tryz.prog 11 #[.string s] w (ParP [] k 0 w) := by
  have i1 : ¬ (s.size : Int) < 2 := by omega
  have i2 : 0 < s.size := by omega
  have i3 : (0 : Int) ≤ (s.size : Int) - 1 := by omega
  have i4 : (s.size : Int) - 1 < s.size := by omega
  have i5 : (1 : Int) < s.size := by omega
  have i6 : ¬ (2 : Int) < s.size := by omega
  have i7 : s.size ≤ 200 := by omega
  rcases hk with ⟨rfl, a1, b1⟩ | ⟨rfl, a1, b1⟩
  all_goals
    go_enter Tryz.func11, Tryz.ntmps11
    go_wp2_with fail
    refine wp_loop_rounds 1 ?_
    rw [rounds_succ]
    go_wp2_with fail
    go_region
    all_goals
      go_wp2_with fail
      go_ret3
      exact ⟨none, 0, 0, rfl, Rd.nil _, drew_below _⟩

set_option maxHeartbeats 3200000 in
set_option maxRecDepth 100000 in
theorem parR_mid (s : ByteArray) (w : World) (k : Bool) (P : List Int × Bool × Int) (h2 : 2 < s.size) (hs : s.size ≤ 200) (hk : (k = true ∧ ((s[0]'(by omega)).toNat : Int) = 91 ∧ ((s[s.size - 1]'(by omega)).toNat : Int) = 62) ∨ (k = false ∧ ((s[0]'(by omega)).toNat : Int) = 60 ∧ ((s[s.size - 1]'(by omega)).toNat : Int) = 93))
    (hP1 : (wordsL (midS s)).all canB = false → P = ([], false, 15)) (hP2 : (wordsL (midS s)).all canB = true → okB ((wordsL (midS s)).map intV) = false → P = ([], false, 4)) (hP3 : (wordsL (midS s)).all canB = true → okB ((wordsL (midS s)).map intV) = true → P = ((wordsL (midS s)).map intV, k, 0)) :
    Calls Tryz.prog 11 #[.string s] w (ParP P.1 P.2.1 P.2.2 w) := by
  have i1 : ¬ (s.size : Int) < 2 := by omega
  have i2 : 0 < s.size := by omega
  have i3 : (0 : Int) ≤ (s.size : Int) - 1 := by omega
  have i4 : (s.size : Int) - 1 < s.size := by omega
  have i6 : (2 : Int) < s.size := by omega
  have HP1 := Lib.hid hP1
  have HP2 := Lib.hid hP2
  have HP3 := Lib.hid hP3
  obtain ⟨i0, hi0, hz1, hz2, hz3⟩ := info_parts infoI
  clear hP1 hP2 hP3
  have HS0 := Lib.hid (StR.start h2)
  rcases hk with ⟨rfl, a1, b1⟩ | ⟨rfl, a1, b1⟩
  all_goals
    go_enter Tryz.func11, Tryz.ntmps11
    go_wp2_with fail
    go_loopw [2, 6, 7, 8] (fun rv lv fv iv wr => ∃ (v : Value) (f j : Nat) (ws : List (List UInt8)), rv = v ∧ lv = .bool (limB ws) ∧ fv = .int .i64 f ∧ iv = .int .i64 j ∧ f ≤ j ∧ j ≤ s.size ∧ ws.length ≤ j ∧ wr.ownsRow w.heap.size 3 1 v ws.length (ci (ws.map valV)) ∧ Below w.heap.size w wr ∧ Hid (StR s f j ws ∧ ws.all canB = true)) (fun _ _ _ iv _ => s.size - (intOf iv).toNat)
    case atStart => exact ⟨_, 1, 1, [], rfl, rfl, rfl, rfl, Nat.le_refl _, by omega, by simp, World.ownsRow_nil _ _ _ _, Below.refl _ _, Lib.hid ⟨HS0.out, rfl⟩⟩
    case round =>
      obtain ⟨v, f, j, ws, rfl, rfl, rfl, rfl, hfj, hjs, hwj, hrow, hbel, HST⟩ := hrel
      have g1 : (f : Int) ≤ j := by omega
      have g2 : (j : Int) ≤ s.size := by omega
      have HR := Lib.hid hrow
      have HB := Lib.hid hbel
      have hbs := hbel.size
      clear hrow hbel
      by_cases hlt : j < s.size
      · have g3 : (j : Int) < s.size := by omega
        by_cases hw : (s[j]'hlt) ≠ 32 ∧ j + 2 ≤ s.size
        · have HN := Lib.hid (HST.out.1.cont hw.2 hw.1)
          have c1 : ¬ ((s[j]'hlt).toNat : Int) = 32 := byte_ne (n := 32) hw.1 (by decide)
          have c2 : (j : Int) < (s.size : Int) - 1 := by omega
          clear hw
          go_wp2_with fail
          all_goals go_roundw
          case rel => exact ⟨_, f, j + 1, ws, rfl, rfl, rfl, by go_num, by omega, by omega, by omega, HR.out, HB.out, Lib.hid ⟨HN.out, HST.out.2⟩⟩
          case measure => simp [intOf]; omega
        · have hww : (s[j]'hlt) = 32 ∨ j + 1 = s.size := by
            by_cases e : (s[j]'hlt) = 32
            · exact .inl e
            · exact .inr (by by_cases e2 : j + 2 ≤ s.size; exact absurd ⟨e, e2⟩ hw; omega)
          obtain ⟨⟨r, hr⟩, hnext⟩ := HST.out.1.word hlt hww h2
          have HNX := Lib.hid hnext
          have hus : (s.extract f j).size ≤ 200 := by rw [← wlen_list, ext_mid, List.length_take, List.length_drop, wlen_list]; omega
          have HI := Lib.hid (fun wx => intR_any (s.extract f j) wx (by omega))
          have HV := Lib.hid (fun wx hc => valR_any (s.extract f j) wx hc (by omega))
          obtain ⟨x, hx⟩ : ∃ x, x = (s.extract f j).data.toList := ⟨_, rfl⟩
          rw [← hx] at HNX hr HI HV
          have hww2 : ¬ (¬ ((s[j]'hlt).toNat : Int) = 32 ∧ (j : Int) < (s.size : Int) - 1) := by
            rintro ⟨e1, e2⟩
            rcases hww with h | h
            · apply e1; rw [h]; rfl
            · omega
          have htest : (((s[j]'hlt).toNat : Int) = 32) ∨ (¬ ((s[j]'hlt).toNat : Int) = 32 ∧ ¬ (j : Int) < (s.size : Int) - 1) := by
            by_cases e : ((s[j]'hlt).toNat : Int) = 32
            · exact .inl e
            · exact .inr ⟨e, fun e2 => hww2 ⟨e, e2⟩⟩
          clear hww hww2 hnext hx
          cases hcx : canB x with
          | false =>
            rw [hcx] at HI
            have HP := Lib.hid (HP1.out (by rw [hr, List.all_append, List.all_cons, hcx]; simp))
            clear hcx hr
            rcases htest with c1 | ⟨c1, c2⟩
            all_goals
              go_wp2_with fail
              refine (HI.out _).mono ?_
              rintro e w2 ⟨rfl, hw2⟩
              obtain rfl := hw2
              go_wp2_with fail
              go_ret3
              rw [HP.out]
              exact ⟨none, 0, 0, rfl, Rd.nil _, HB.out⟩
          | true =>
            rw [hcx] at HI
            have HV2 := Lib.hid (fun wx => HV.out wx hcx)
            have HC2 := Lib.hid (show (ws ++ [x]).all canB = true by rw [List.all_append, HST.out.2]; simp [hcx])
            have hlm := lim_snoc ws x
            obtain ⟨zv, hzv⟩ : ∃ z, z = valV x := ⟨_, rfl⟩
            rw [← hzv] at HV2
            have HZV := Lib.hid hzv
            obtain ⟨be, hbe⟩ : ∃ b, b = entB (intV x) := ⟨_, rfl⟩
            obtain ⟨bl, hbl⟩ : ∃ b, b = limB ws := ⟨_, rfl⟩
            rw [← hbe] at HV2 hlm
            rw [← hbl] at hlm ⊢
            have HLM := Lib.hid hlm
            clear hcx hr HV hzv hbe hbl hlm
            have hlist : ci (ws.map valV) ++ [.int .i64 zv] = ci ((ws ++ [x]).map valV) := by rw [List.map_append, HZV.out]; simp [ci]
            have HLI := Lib.hid hlist
            clear hlist
            rcases htest with c1 | ⟨c1, c2⟩
            all_goals cases bl
            all_goals cases be
            all_goals
              go_wp2_with fail
              refine (HI.out _).mono ?_
              rintro e w2 ⟨rfl, hw2⟩
              obtain rfl := hw2
              go_wp2_with fail
              refine (HV2.out _).mono ?_
              rintro e w3 ⟨rfl, hb3⟩
              have HB3 := Lib.hid (HB.out.trans (hb3.mono hbs))
              have hsz3 := HB3.out.size
              have HR3 := Lib.hid (ownsRow_below HR.out hb3)
              clear hb3
              go_wp2_with (first
                | (at_builtin; refine wpList_append_own _ rfl _ _ 23 rfl w.heap.size 3 i0 (.int .i64 0) 1 8 Tryz.underlying23 hi0 hz1 hz2 hz3 rfl (by decide) _ _ _ rfl (World.ownsRow.alloc HR3.out _) ⟨w3.heap.size, 0, none⟩ 1 1 [.int .i64 zv] rfl rfl (cell_one_new _ _ _) (by simp [Value.oneCell']) (by unfold maxLen; omega) (by omega) (by simp; omega) ?_; intro v' w4 hown' hgrow _; obtain ⟨g', cap2, rfl⟩ := ownsRow_succ hown'; have hbel4 : Below w.heap.size w w4 := (HB3.out.alloc hsz3 _).grown hgrow (by simp; omega) (by intro q hq; exact ((HR3.out.alloc (.cells #[.int .i64 zv] 3)).lt q hq).1); have HB4 := Lib.hid hbel4; have HOW := Lib.hid hown'; clear hown' hgrow hbel4)
                | fail)
              all_goals go_roundw
              case rel => exact ⟨_, j + 1, j + 1, ws ++ [x], rfl, by rw [HLM.out]; rfl, by go_num, by go_num, Nat.le_refl _, by omega, by rw [List.length_append, List.length_singleton]; omega, by rw [List.length_append, List.length_singleton, ← HLI.out]; exact HOW.out, HB4.out, Lib.hid ⟨HNX.out, HC2.out⟩⟩
              case measure => simp [intOf]; omega
      · obtain rfl : j = s.size := by omega
        have hdone := HST.out.1.done
        subst hdone
        have hcan := HST.out.2
        obtain ⟨ar, cr, rfl, hrd⟩ := Rd.of_owns HR.out (by rw [List.length_map]) (by
          intro z hz
          obtain ⟨y, hy, rfl⟩ := List.mem_map.1 hz
          have := valV_bd y (List.all_eq_true.1 hcan y hy)
          omega)
        have hcap := hrd.cap
        have HRD := Lib.hid hrd
        have HC := Lib.hid hcan
        have g4 : ¬ (s.size : Int) < s.size := by omega
        obtain ⟨N, hN⟩ : ∃ N, N = (wordsL (midS s)).length := ⟨_, rfl⟩
        rw [← hN] at HRD hcap hwj ⊢
        have HNN := Lib.hid hN
        clear hrd hcan hN HR
        cases hl : limB (wordsL (midS s)) with
        | true =>
          have HP := Lib.hid (HP2.out HC.out (ref_bad (.inl hl)))
          clear hl
          go_wp2_with fail
          go_ret3
          rw [HP.out]
          exact ⟨none, 0, 0, rfl, Rd.nil _, HB.out⟩
        | false =>
          by_cases h64 : 64 < N
          · have HP := Lib.hid (HP2.out HC.out (ref_bad (.inr (by rw [← HNN.out]; exact h64))))
            have g5 : (64 : Int) < N := by omega
            clear hl h64
            go_wp2_with fail
            go_ret3
            rw [HP.out]
            exact ⟨none, 0, 0, rfl, Rd.nil _, HB.out⟩
          · obtain ⟨o1, o2⟩ := ref_ok HC.out hl (by rw [← HNN.out]; omega)
            rw [o2] at HRD
            have HP := Lib.hid (HP3.out HC.out o1)
            have g5 : ¬ (64 : Int) < N := by omega
            clear hl h64 o1 o2
            go_wp2_with fail
            go_region
            all_goals
              go_wp2_with fail
              go_ret3
              rw [HP.out]
              exact ⟨ar, N, cr, rfl, HRD.out.below (drew_below _), HB.out.drew⟩
theorem parR_any (s : ByteArray) (w : World) (hs : s.size ≤ 200) :
    Calls Tryz.prog 11 #[.string s] w (ParP (parM s.data.toList).1 (parM s.data.toList).2.1 (parM s.data.toList).2.2 w) := by
  by_cases h2 : 2 ≤ s.size
  · by_cases hk : ∃ k : Bool, if k = true then (s[0]'(by omega)) = 91 ∧ (s[s.size - 1]'(by omega)) = 62 else (s[0]'(by omega)) = 60 ∧ (s[s.size - 1]'(by omega)) = 93
    · obtain ⟨k, hk⟩ := hk
      have hu := unw_mid h2 k hk
      have hf := front_facts h2 hk
      have e : parM s.data.toList = if midS s = [] then ([], k, 0) else if (wordsL (midS s)).all canB = true then (if okB ((wordsL (midS s)).map intV) = true then ((wordsL (midS s)).map intV, k, 0) else ([], false, 4)) else ([], false, 15) := by
        unfold parM; rw [hu]; simp only; rw [if_neg (by decide)]
      by_cases h3 : s.size ≤ 2
      · have hm : midS s = [] := List.eq_nil_of_length_eq_zero (by unfold midS; rw [List.length_take]; omega)
        rw [e, if_pos hm]
        exact parR_two s w k h2 h3 hf
      · have hm : midS s ≠ [] := by
          intro h
          have := congrArg List.length h
          unfold midS at this
          rw [List.length_take, List.length_drop, wlen_list] at this
          simp at this; omega
        rw [if_neg hm] at e
        refine parR_mid s w k _ (by omega) hs hf (fun h => ?_) (fun h h' => ?_) (fun h h' => ?_)
        · rw [e, if_neg (by rw [h]; decide)]
        · rw [e, if_pos h, if_neg (by rw [h']; decide)]
        · rw [e, if_pos h, if_pos h']
    · have h3 : ¬ ((s[0]'(by omega)) = 91 ∧ (s[s.size - 1]'(by omega)) = 62) := fun h => hk ⟨true, by rw [if_pos rfl]; exact h⟩
      have h4 : ¬ ((s[0]'(by omega)) = 60 ∧ (s[s.size - 1]'(by omega)) = 93) := fun h => hk ⟨false, by rw [if_neg (by decide)]; exact h⟩
      rw [unw_none (.inr ⟨h2, h3, h4⟩)]
      exact parR_no s w h2 hs h3 h4
  · rw [unw_none (.inl (by omega))]
    exact parR_short s w (by omega)
end Go.Proofs.YtkpaopfdnfgjeaaGreatDoor
