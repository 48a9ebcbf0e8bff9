/-
  The reference's DivMod.
-/
import Derived.Test.YtfhmdlpjeiockaaDoorRefSub
import Derived.Test.YtfhmdlpjeiockaaDoorPowersLaw
import Derived.Deep.RegionWith
namespace Go.Proofs.YtfhmdlpjeiockaaDoor
open Go.RowKit

theorem dd_step (r d : Nat) (hr : 0 < r) (hd : d < 10) : Lib.decDigits (10 * r + d) = Lib.decDigits r ++ [UInt8.ofNat (48 + d)] := by
  rw [dd_big (by omega), show (10 * r + d) / 10 = r by omega, show (10 * r + d) % 10 = d by omega]
theorem str_data (a : Nat) : (str a).data.toList = Lib.decDigits a := str_list a
theorem canonL_str (a : Nat) : canonL (str a).data.toList = true := by rw [str_list]; exact canon_dd a
theorem app_str (r d : Nat) (hr : 0 < r) (hd : d < 10) : str r ++ str d = str (10 * r + d) := by
  have e : (str r ++ str d).data.toList = Lib.decDigits (10 * r + d) := by
    rw [dd_step r d hr hd, ← dd_small hd]
    simp [str_list]
  refine str_eq _ ?_ ?_
  · rw [e]; exact canon_dd _
  · rw [e]; exact val_dd _
theorem ext_one (a i : Nat) (h : i < (str a).size) : (str a).extract i (i + 1) = str (a / 10 ^ ((str a).size - 1 - i) % 10) := by
  have hl : i < (str a).data.toList.length := by rw [len_list]; exact h
  have e : ((str a).extract i (i + 1)).data.toList = Lib.decDigits (a / 10 ^ ((str a).size - 1 - i) % 10) := by
    rw [ext_list, List.take_succ_eq_append_getElem hl, List.drop_append_of_le_length (by rw [List.length_take]; omega), List.drop_of_length_le (by rw [List.length_take]; omega), List.nil_append, dd_small (Nat.mod_lt _ (by decide))]
    have h1 := str_at a i h
    rw [← at_list] at h1
    rw [h1]
    rfl
  refine str_eq _ ?_ ?_
  · rw [e]; exact canon_dd _
  · rw [e]; exact val_dd _
theorem RowB.below {w w' : World} {B g cap n : Nat} {l : List UInt8} (h : RowB w B g cap n l) (hb : Below w.heap.size w w') : RowB w' B g cap n l :=
  ⟨h.1, World.ownsRow.kept (row := none) h.2 ⟨hb.os, hb.tape, hb.output, hb.size, fun j hj _ => hb.block j hj⟩ (.inr (by simp [Value.ownBlock]))⟩
/-- digits, then zeros -/
def dz (S : List UInt8) (m : Nat) : List UInt8 := S ++ List.replicate m 0
theorem dz_set (S : List UInt8) (m : Nat) (c : UInt8) : (dz S (m + 1)).set S.length c = dz (S ++ [c]) m := by
  unfold dz
  rw [List.set_append_right _ _ (Nat.le_refl _), Nat.sub_self, List.replicate_succ, List.set_cons_zero]
  simp
theorem dz_len (S : List UInt8) (m : Nat) : (dz S m).length = S.length + m := by simp [dz]
theorem dz_nil (m : Nat) : dig0 m [] = dz [] m := by simp [dig0, dz]
theorem dz_zero (S : List UInt8) : dz S 0 = S := by simp [dz]
theorem all_snoc {S : List UInt8} {c : Nat} (h : S.all isD = true) (hc : c < 10) : (S ++ [UInt8.ofNat (48 + c)]).all isD = true := by
  rw [List.all_append, h]
  show (true && (isD (UInt8.ofNat (48 + c)) && true)) = true
  rw [ofNat_isD hc]; rfl
/-- one step of the division by hand -/
theorem long_step {A b d c x r : Nat} (hb : 0 < b) (hr : r = A % b) (h : c * b + x = 10 * r + d) (hx : x < b) : (10 * A + d) / b = 10 * (A / b) + c ∧ (10 * A + d) % b = x := by
  have h1 := Nat.div_add_mod A b
  rw [← hr] at h1
  have h2 : 10 * A + d = x + b * (10 * (A / b) + c) := by
    have : b * (10 * (A / b) + c) = 10 * (b * (A / b)) + c * b := by rw [Nat.mul_add, Nat.mul_left_comm, Nat.mul_comm c]
    omega
  rw [h2]
  exact ⟨by rw [Nat.add_mul_div_left _ _ hb, Nat.div_eq_of_lt hx, Nat.zero_add], by rw [Nat.add_mul_mod_self_left, Nat.mod_eq_of_lt hx]⟩

set_option maxHeartbeats 1600000 in
set_option maxRecDepth 100000 in
theorem divR_small (a b : Nat) (w : World) (ha : (str a).size ≤ 18) (hb : (str b).size ≤ 18) (hb0 : 0 < b) :
    Calls Tryd.prog 14 #[.string (str a), .string (str b)] w fun e w' => e = .returned (.tuple #[.string (str (a / b)), .string (str (a % b))]) ∧ Below w.heap.size w w' := by
  have HA := Lib.hid (fun wx => quick_yes a wx ha)
  have HB := Lib.hid (fun wx => quick_yes b wx hb)
  have h1 := lt_of_size ha
  have hq0 : a / b ≤ a := Nat.div_le_self _ _
  have hm0 : a % b ≤ a := Nat.mod_le _ _
  obtain ⟨q, hq⟩ : ∃ q, q = a / b := ⟨_, rfl⟩
  obtain ⟨r, hr⟩ : ∃ r, r = a % b := ⟨_, rfl⟩
  rw [← hq] at hq0 ⊢
  rw [← hr] at hm0 ⊢
  have HO : Hid (∀ (z : Nat) (wx : World), z < 1000000000000000000 → Below w.heap.size w wx → Calls Tryd.prog 27 #[.int .u64 z] wx fun e w' => e = .returned (.string (str z)) ∧ Below w.heap.size w w') := Lib.hid (fun z wx hz hb => (ofR_any z wx (by omega)).mono fun e w' h => ⟨h.1, hb.trans (h.2.mono hb.size)⟩)
  have hb0 : Below w.heap.size w w.drew := Below.drew (Below.refl _ _)
  replace hq0 : q < 1000000000000000000 := by omega
  replace hm0 : r < 1000000000000000000 := by omega
  have hqi : (a : Int) / (b : Int) = (q : Int) := by rw [hq]; simp
  have hri : (a : Int) % (b : Int) = (r : Int) := by rw [hr]; simp
  have hwq : IntKind.u64.wrap (q : Int) = (q : Int) := by rw [IntKind.wrap_u64]; omega
  have htm : (a : Int).tmod (b : Int) = (r : Int) := by rw [Int.tmod_eq_emod_of_nonneg (by omega)]; exact hri
  have hnz : ((b : Int) == 0) = false := by rw [beq_eq_false_iff_ne]; omega
  clear h1 hq hr ha hb
  go_enter Tryd.func14, Tryd.ntmps14
  go_wp2_with fail
  refine (HA.out _).mono ?_
  rintro e w1 ⟨rfl, rfl⟩
  go_wp2_with fail
  refine (HB.out _).mono ?_
  rintro e w1 ⟨rfl, rfl⟩
  go_wp2_with fail
  go_region_with (go_at_call 27; refine (HO.out _ _ ?hz ?hb).mono ?_; (case hb => assumption); (case hz => first | exact hq0 | exact hm0); rintro e w' ⟨rfl, h1⟩)
  all_goals
    go_wp2_with fail
    go_ret2
    exact ⟨rfl, by assumption⟩
theorem cmp_ge {a b : Nat} : (0 ≤ cmpN a b) ↔ b ≤ a := by
  unfold cmpN
  by_cases h : a < b
  · rw [if_pos h]; constructor
    · intro h1; exact absurd h1 (by decide)
    · intro h1; omega
  · rw [if_neg h]
    constructor
    · intro _; omega
    · intro _; split <;> decide
theorem div_le9 {b c d r x : Nat} (h : c * b + x = 10 * r + d) (hx : b ≤ x) (hr : r < b) (hd : d < 10) : c < 9 := by
  apply Nat.lt_of_not_le; intro h9
  have : 9 * b ≤ c * b := Nat.mul_le_mul_right b h9
  omega
theorem size_x {b c d r x n : Nat} (h : c * b + x = 10 * r + d) (hr : r < b) (hd : d < 10) (hb : (str b).size ≤ n) : (str x).size ≤ n + 1 := by
  refine str_big ?_ (by omega)
  have h1 := lt_of_size hb
  have : 10 ^ (n + 1) = 10 * 10 ^ n := by rw [Nat.pow_succ, Nat.mul_comm]
  omega

set_option maxHeartbeats 3200000 in
set_option maxRecDepth 100000 in
theorem divR_big (a b : Nat) (w : World) (ha : (str a).size ≤ 400000) (hb : (str b).size ≤ 400000) (hb0 : 0 < b) (hbig : ¬ ((str a).size ≤ 18 ∧ (str b).size ≤ 18)) :
    Calls Tryd.prog 14 #[.string (str a), .string (str b)] w fun e w' => e = .returned (.tuple #[.string (str (a / b)), .string (str (a % b))]) ∧ Below w.heap.size w w' := by
  obtain ⟨i0, hi, hz0, hz1, hz2⟩ := info_parts info8
  obtain ⟨q1, bx, HA, HA2⟩ : ∃ (q1 : Nat) (bx : Bool), Hid (∀ wx, Calls Tryd.prog 26 #[.string (str a)] wx fun e w' => e = .returned (.tuple #[.int .u64 q1, .bool bx]) ∧ wx = w') ∧ (bx = true → (str a).size ≤ 18) := by
    by_cases h : (str a).size ≤ 18
    · exact ⟨a, true, fun wx => quick_yes a wx h, fun _ => h⟩
    · exact ⟨0, false, fun wx => quick_no a wx (by omega), fun h => by cases h⟩
  obtain ⟨q2, by', HB, HB2⟩ : ∃ (q2 : Nat) (bx : Bool), Hid (∀ wx, Calls Tryd.prog 26 #[.string (str b)] wx fun e w' => e = .returned (.tuple #[.int .u64 q2, .bool bx]) ∧ wx = w') ∧ (bx = true → (str b).size ≤ 18) := by
    by_cases h : (str b).size ≤ 18
    · exact ⟨b, true, fun wx => quick_yes b wx h, fun _ => h⟩
    · exact ⟨0, false, fun wx => quick_no b wx (by omega), fun h => by cases h⟩
  have hbb : bx = false ∨ (bx = true ∧ by' = false) := by
    cases bx with
    | false => exact .inl rfl
    | true => cases by' with
              | false => exact .inr ⟨rfl, rfl⟩
              | true => exact absurd ⟨HA2 rfl, HB2 rfl⟩ hbig
  obtain ⟨N, hN⟩ : ∃ N : Nat, N = (str a).size := ⟨_, rfl⟩
  have hNi : ((str a).size : Int) = (N : Int) := by omega
  have hN0 : 0 < N := by have h := str_size a; have h2 := Lib.nDigits_pos a; omega
  have hNb : N ≤ 400000 := by omega
  have HNE := Lib.hid hN
  have HBS := Lib.hid hb
  have HAL := Lib.hid (lt_of_size (a := a) (n := N) (by omega))
  have HB0 := Lib.hid hb0
  have HCMP := Lib.hid (fun (x : Nat) wx (hx : (str x).size ≤ 1000000) => compareR_any x b wx hx (by omega))
  have HMIN := Lib.hid (fun (x : Nat) wx (hx : (str x).size ≤ 450000) (hle : b ≤ x) => minusR_any x b wx hx hle)
  clear hbig HA2 HB2 hN ha hb hb0
  rcases hbb with rfl | ⟨rfl, rfl⟩
  all_goals
    go_enter Tryd.func14, Tryd.ntmps14
    go_wp2_with fail
    refine (HA.out _).mono ?_
    rintro e w1 ⟨rfl, rfl⟩
    go_wp2_with fail
    refine (HB.out _).mono ?_
    rintro e w1 ⟨rfl, rfl⟩
    go_wp2_with (at_make; refine wpList_make_full _ rfl _ _ 22 rfl w.heap.size 5 i0 (.int .u8 0) 1 Tryd.underlying22 hi hz0 hz1 .i64 .i64 _ _ N rfl rfl rfl rfl (by rw [hz2]; omega) (by unfold maxLen; omega) (Nat.le_refl _) ?_; intro w0 hown0 hgrow0)
    have hbel0 : Below w.heap.size w w0 := (Below.refl _ _).grown hgrow0 (Nat.le_refl _) (by intro k hk; cases hk)
    have hrow0 := RowB.made hown0
    rw [dz_nil] at hrow0
    clear hown0 hgrow0
    go_wp2_with fail
    go_loopw [5, 11, 12] (fun rv iv _ wr => ∃ (i r : Nat) (S : List UInt8), iv = .int .i64 i ∧ i ≤ N ∧ rv = .string (str r) ∧ Hid (S.length = i ∧ S.all isD = true ∧ val S = a / 10 ^ (N - i) / b ∧ r = a / 10 ^ (N - i) % b) ∧ RowB wr w.heap.size w.heap.size N N (dz S (N - i)) ∧ Below w.heap.size w wr) (fun _ iv _ _ => N - (intOf iv).toNat)
    case atStart => exact ⟨0, 0, [], rfl, Nat.zero_le _, by rw [str0], ⟨rfl, rfl, by rw [Nat.sub_zero, Nat.div_eq_of_lt HAL.out, Nat.zero_div]; rfl, by rw [Nat.sub_zero, Nat.div_eq_of_lt HAL.out, Nat.zero_mod]⟩, hrow0, hbel0⟩
    case round =>
      obtain ⟨i, r, S, rfl, hi1, rfl, HI, hrow, hbel⟩ := hrel
      by_cases hlt : i < N
      · have hext := ext_one a i (by rw [← HNE.out]; exact hlt)
        rw [← HNE.out] at hext
        obtain ⟨d, hd⟩ : ∃ d, d = a / 10 ^ (N - 1 - i) % 10 := ⟨_, rfl⟩
        rw [← hd] at hext
        have hd9 : d < 10 := by omega
        have HAN : Hid (a / 10 ^ (N - (i + 1)) = 10 * (a / 10 ^ (N - i)) + d) := by
          refine Lib.hid ?_
          rw [show N - (i + 1) = N - 1 - i by omega, show N - i = (N - 1 - i) + 1 by omega, Nat.pow_succ, ← Nat.div_div_eq_div_mul]
          generalize a / 10 ^ (N - 1 - i) = X at hd ⊢
          omega
        have HRB : Hid (r < b) := Lib.hid (by rw [HI.out.2.2.2]; exact Nat.mod_lt _ HB0.out)
        have HROW := Lib.hid hrow
        have HBEL := Lib.hid hbel
        have i0r := is0 r
        clear hd hrow hbel
        by_cases hr0 : r = 0
        · have HX0 := Lib.hid (show d = 10 * r + d by omega)
          have hrz : ((str r).toList == [48]) = true := by rw [i0r]; simpa using hr0
          have hext0 := hr0
          clear i0r hr0
          clear hext0
          go_wp2_with fail
          go_loopw [5, 12] (fun rv dv wr2 => ∃ (x c : Nat), rv = .string (str x) ∧ dv = .int .u8 (48 + (c : Int)) ∧ c ≤ 9 ∧ Hid (c * b + x = 10 * r + d) ∧ Below wr.heap.size wr wr2) (fun _ dv _ => 58 - (intOf dv).toNat)
          case atStart => exact ⟨d, 0, rfl, rfl, by omega, Lib.hid (by rw [Nat.zero_mul, Nat.zero_add]; exact HX0.out), Below.refl _ _⟩
          case round =>
            obtain ⟨x, c, rfl, rfl, hc9, HX, hbel2⟩ := hrel
            have hxs := size_x HX.out HRB.out hd9 HBS.out
            have HC := Lib.hid (fun wx => HCMP.out x wx (by omega))
            obtain ⟨cc, hcc⟩ : ∃ cc, cc = cmpN x b := ⟨_, rfl⟩
            have hge := cmp_ge (a := x) (b := b)
            rw [← hcc] at HC hge
            clear hcc
            by_cases hbx : b ≤ x
            · have hcc0 : 0 ≤ cc := hge.2 hbx
              have hc8 := div_le9 HX.out hbx HRB.out hd9
              have HM := Lib.hid (fun wx => HMIN.out x wx (by omega) hbx)
              have HXN := Lib.hid (show (c + 1) * b + (x - b) = 10 * r + d by have := HX.out; rw [Nat.add_mul, Nat.one_mul]; omega)
              have HB2 := Lib.hid hbel2
              clear hge hbx hbel2 hxs
              go_wp2_with fail
              refine (HC.out _).mono ?_
              rintro e w3 ⟨rfl, rfl⟩
              go_wp2_with fail
              refine (HM.out _).mono ?_
              rintro e w4 ⟨rfl, h4⟩
              have HB4 := Lib.hid (HB2.out.trans (h4.mono HB2.out.size))
              clear h4
              go_wp2_with fail
              refine ⟨⟨x - b, c + 1, rfl, by push_cast; go_num, by omega, HXN, HB4.out⟩, ?_⟩
              simp [intOf] <;> omega
            · have hcc0 : cc < 0 := by
                apply Int.lt_of_not_ge; intro h; exact hbx (hge.1 h)
              have hls := long_step HB0.out HI.out.2.2.2 HX.out (by omega)
              rw [← HAN.out] at hls
              have hrow2 := HROW.out.below hbel2
              have hil : i < (dz S (N - i)).length := by rw [dz_len, HI.out.1]; omega
              obtain ⟨c0, hc0⟩ : ∃ c0 : Int, wr.cell? ⟨w.heap.size, i, none⟩ = some (.int .u8 c0) := ⟨_, hrow2.cell i hil⟩
              have hf0 := hrow2.free i
              have hset := hrow2.set i (UInt8.ofNat (48 + c))
              rw [ofNat_dig (by omega), show N - i = (N - (i + 1)) + 1 by omega] at hset
              have hds := dz_set S (N - (i + 1)) (UInt8.ofNat (48 + c))
              rw [HI.out.1] at hds
              rw [hds] at hset
              have HI2 : Hid ((S ++ [UInt8.ofNat (48 + c)]).length = i + 1 ∧ (S ++ [UInt8.ofNat (48 + c)]).all isD = true ∧ val (S ++ [UInt8.ofNat (48 + c)]) = a / 10 ^ (N - (i + 1)) / b ∧ x = a / 10 ^ (N - (i + 1)) % b) := Lib.hid ⟨by rw [List.length_append, HI.out.1]; rfl, all_snoc HI.out.2.1 (by omega), by rw [val_snoc, ofNat_dig (by omega), HI.out.2.2.1, hls.1]; omega, hls.2.symm⟩
              rw [show ((48 + c : Nat) : Int) = 48 + (c : Int) by push_cast; rfl] at hset
              have HSET := Lib.hid hset
              have HB2 := Lib.hid ((HBEL.out.trans (hbel2.mono HBEL.out.size)).setCell (p := ⟨w.heap.size, i, none⟩) (Nat.le_refl _) (.int .u8 (48 + (c : Int))))
              clear hge hbx hbel2 hxs hls hrow2 hil hset hds
              go_wp2_with fail
              refine (HC.out _).mono ?_
              rintro e w3 ⟨rfl, rfl⟩
              go_wp2_with fail
              refine ⟨⟨i + 1, x, S ++ [UInt8.ofNat (48 + c)], by push_cast; rfl, by omega, rfl, HI2, HSET.out, HB2.out⟩, ?_⟩
              simp [intOf] <;> omega
        · have hrz : ((str r).toList == [48]) = false := by rw [i0r]; simpa using hr0
          have hext0 := app_str r d (by omega) hd9
          have hrs := Nat.le_trans (size_mono (Nat.le_of_lt HRB.out)) HBS.out
          have hcat : ¬ 9223372036854775807 < (str r).size + (min (i + 1) (str a).size - i) := by omega
          have happ : str r ++ (str a).extract i (i + 1) = str (10 * r + d) := by rw [hext]; exact hext0
          obtain ⟨x0, hx0⟩ : ∃ x0, x0 = 10 * r + d := ⟨_, rfl⟩
          rw [← hx0] at happ
          have HX0 := Lib.hid hx0
          clear i0r hr0 hx0 hext
          clear hext0
          go_wp2_with fail
          go_loopw [5, 12] (fun rv dv wr2 => ∃ (x c : Nat), rv = .string (str x) ∧ dv = .int .u8 (48 + (c : Int)) ∧ c ≤ 9 ∧ Hid (c * b + x = 10 * r + d) ∧ Below wr.heap.size wr wr2) (fun _ dv _ => 58 - (intOf dv).toNat)
          case atStart => exact ⟨x0, 0, rfl, rfl, by omega, Lib.hid (by rw [Nat.zero_mul, Nat.zero_add]; exact HX0.out), Below.refl _ _⟩
          case round =>
            obtain ⟨x, c, rfl, rfl, hc9, HX, hbel2⟩ := hrel
            have hxs := size_x HX.out HRB.out hd9 HBS.out
            have HC := Lib.hid (fun wx => HCMP.out x wx (by omega))
            obtain ⟨cc, hcc⟩ : ∃ cc, cc = cmpN x b := ⟨_, rfl⟩
            have hge := cmp_ge (a := x) (b := b)
            rw [← hcc] at HC hge
            clear hcc
            by_cases hbx : b ≤ x
            · have hcc0 : 0 ≤ cc := hge.2 hbx
              have hc8 := div_le9 HX.out hbx HRB.out hd9
              have HM := Lib.hid (fun wx => HMIN.out x wx (by omega) hbx)
              have HXN := Lib.hid (show (c + 1) * b + (x - b) = 10 * r + d by have := HX.out; rw [Nat.add_mul, Nat.one_mul]; omega)
              have HB2 := Lib.hid hbel2
              clear hge hbx hbel2 hxs
              go_wp2_with fail
              refine (HC.out _).mono ?_
              rintro e w3 ⟨rfl, rfl⟩
              go_wp2_with fail
              refine (HM.out _).mono ?_
              rintro e w4 ⟨rfl, h4⟩
              have HB4 := Lib.hid (HB2.out.trans (h4.mono HB2.out.size))
              clear h4
              go_wp2_with fail
              refine ⟨⟨x - b, c + 1, rfl, by push_cast; go_num, by omega, HXN, HB4.out⟩, ?_⟩
              simp [intOf] <;> omega
            · have hcc0 : cc < 0 := by
                apply Int.lt_of_not_ge; intro h; exact hbx (hge.1 h)
              have hls := long_step HB0.out HI.out.2.2.2 HX.out (by omega)
              rw [← HAN.out] at hls
              have hrow2 := HROW.out.below hbel2
              have hil : i < (dz S (N - i)).length := by rw [dz_len, HI.out.1]; omega
              obtain ⟨c0, hc0⟩ : ∃ c0 : Int, wr.cell? ⟨w.heap.size, i, none⟩ = some (.int .u8 c0) := ⟨_, hrow2.cell i hil⟩
              have hf0 := hrow2.free i
              have hset := hrow2.set i (UInt8.ofNat (48 + c))
              rw [ofNat_dig (by omega), show N - i = (N - (i + 1)) + 1 by omega] at hset
              have hds := dz_set S (N - (i + 1)) (UInt8.ofNat (48 + c))
              rw [HI.out.1] at hds
              rw [hds] at hset
              have HI2 : Hid ((S ++ [UInt8.ofNat (48 + c)]).length = i + 1 ∧ (S ++ [UInt8.ofNat (48 + c)]).all isD = true ∧ val (S ++ [UInt8.ofNat (48 + c)]) = a / 10 ^ (N - (i + 1)) / b ∧ x = a / 10 ^ (N - (i + 1)) % b) := Lib.hid ⟨by rw [List.length_append, HI.out.1]; rfl, all_snoc HI.out.2.1 (by omega), by rw [val_snoc, ofNat_dig (by omega), HI.out.2.2.1, hls.1]; omega, hls.2.symm⟩
              rw [show ((48 + c : Nat) : Int) = 48 + (c : Int) by push_cast; rfl] at hset
              have HSET := Lib.hid hset
              have HB2 := Lib.hid ((HBEL.out.trans (hbel2.mono HBEL.out.size)).setCell (p := ⟨w.heap.size, i, none⟩) (Nat.le_refl _) (.int .u8 (48 + (c : Int))))
              clear hge hbx hbel2 hxs hls hrow2 hil hset hds
              go_wp2_with fail
              refine (HC.out _).mono ?_
              rintro e w3 ⟨rfl, rfl⟩
              go_wp2_with fail
              refine ⟨⟨i + 1, x, S ++ [UInt8.ofNat (48 + c)], by push_cast; rfl, by omega, rfl, HI2, HSET.out, HB2.out⟩, ?_⟩
              simp [intOf] <;> omega
      · obtain rfl : i = N := by omega
        have hrow2 := hrow
        rw [Nat.sub_self, dz_zero] at hrow2
        have HT := Lib.hid (trimR_any _ _ _ _ S _ hrow2 HI.out.2.1 hN0)
        have HV := Lib.hid (show val S = a / b ∧ r = a % b by have h1 := HI.out.2.2; rw [Nat.sub_self, Nat.pow_zero, Nat.div_one] at h1; exact h1)
        have HBL := Lib.hid hbel
        clear hrow hrow2 hbel
        go_wp2_with fail
        refine HT.out.mono ?_
        rintro e w1 ⟨rfl, rfl⟩
        go_wp2_with fail
        go_ret2
        exact ⟨by rw [HV.out.1, HV.out.2]; rfl, HBL.out⟩
end Go.Proofs.YtfhmdlpjeiockaaDoor
