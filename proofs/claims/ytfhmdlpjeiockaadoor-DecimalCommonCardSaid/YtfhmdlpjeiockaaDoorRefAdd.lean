/-
  The reference's digit, trim, Add and Minus.
-/
import Derived.Test.YtfhmdlpjeiockaaDoorTools
import Derived.Test.YtfhmdlpjeiockaaDoorRefs
namespace Go.Proofs.YtfhmdlpjeiockaaDoor
open Go.RowKit

theorem str_at (a q : Nat) (h : q < (str a).size) : ((str a)[q]'h) = Lib.dg a ((str a).size - 1 - q) := by
  rw [← at_list]
  simp only [str_list, Lib.decDigits_eq, List.getElem_map, List.getElem_range, str_size]

set_option maxHeartbeats 800000 in
theorem digit_any (a place : Nat) (w : World) (hs : (str a).size ≤ 1000000) (hp : place ≤ 1000000) :
    Calls Tryd.prog 28 #[.string (str a), .int .i64 place] w fun e w' => e = .returned (.int .i64 ((a / 10 ^ place % 10 : Nat) : Int)) ∧ w = w' := by
  by_cases h : place < (str a).size
  · have hz := congrArg UInt8.toNat (str_at a ((str a).size - 1 - place) (by omega))
    rw [dg_nat, show (str a).size - 1 - ((str a).size - 1 - place) = place by omega] at hz
    obtain ⟨d, hd⟩ : ∃ d, d = a / 10 ^ place % 10 := ⟨_, rfl⟩
    have hd9 : d < 10 := by omega
    rw [← hd] at hz ⊢
    have hz' : ((((str a)[(str a).size - 1 - place]'(by omega)).toNat : Nat) : Int) = 48 + (d : Int) := by omega
    clear hz hd
    go_enter Tryd.func28, Tryd.ntmps28
    go_wp2
    go_ret
    exact ⟨by first | rfl | exact ret_int (by omega), rfl⟩
  · have h0 : a / 10 ^ place % 10 = 0 := by
      have h1 := lt_of_size (a := a) (n := place) (by omega)
      rw [Nat.div_eq_of_lt h1]
    rw [h0]
    clear h0
    go_enter Tryd.func28, Tryd.ntmps28
    go_wp2
    go_ret
    exact ⟨rfl, rfl⟩

theorem drop_val {L : List UInt8} {k : Nat} (h : k < L.length) (h0 : L[k] = 48) : val (L.drop (k + 1)) = val (L.drop k) := by
  rw [List.drop_eq_getElem_cons h, h0, val_cons]; simp
theorem all_drop {L : List UInt8} (h : L.all isD = true) (k : Nat) : (L.drop k).all isD = true :=
  List.all_eq_true.2 fun x hx => List.all_eq_true.1 h x (List.mem_of_mem_drop hx)
theorem head_one (c : UInt8) : headOk [c] = true := by
  unfold headOk
  by_cases hc : c = 48
  · rw [hc]; rfl
  · simp
theorem head_cons {c : UInt8} {l : List UInt8} (hc : c ≠ 48) : headOk (c :: l) = true := by
  unfold headOk; simp [hc]
theorem drop_canon {L : List UInt8} {k : Nat} (h : L.all isD = true) (hk : k < L.length) (h0 : k + 1 = L.length ∨ L[k] ≠ 48) : canonL (L.drop k) = true := by
  unfold canonL
  rw [all_drop h k, List.drop_eq_getElem_cons hk]
  rcases h0 with h0 | h0
  · rw [List.drop_of_length_le (by omega), head_one]; rfl
  · rw [head_cons h0]; rfl

set_option maxHeartbeats 1600000 in
set_option maxRecDepth 100000 in
theorem trimR_any (B g cap n : Nat) (L : List UInt8) (w : World) (h : RowB w B g cap n L) (hd : L.all isD = true) (hn : 0 < n) :
    Calls Tryd.prog 29 #[.slice (some ⟨g, 0, none⟩) n cap] w fun e w' => e = .returned (.string (str (val L))) ∧ w = w' := by
  have hlc := h.len_cap
  unfold maxLen at hlc
  have H := Lib.hid h
  have HD := Lib.hid hd
  have HL := Lib.hid h.1
  clear h hd
  go_enter Tryd.func29, Tryd.ntmps29
  go_wp2_with fail
  go_loop [3] (fun iv => ∃ k : Nat, iv = .int .i64 k ∧ k < n ∧ Hid (val (L.drop k) = val L)) (fun iv => n - (intOf iv).toNat)
  case atStart => exact ⟨0, rfl, hn, rfl⟩
  case round =>
    obtain ⟨k, rfl, hk, HV⟩ := hrel
    have hkL : k < L.length := by rw [HL.out]; exact hk
    have hcell := H.out.cell k hkL
    by_cases hcont : k + 1 < n ∧ L[k] = 48
    · obtain ⟨hk1, h48⟩ := hcont
      have HDV := Lib.hid (drop_val hkL h48)
      rw [h48] at hcell
      clear h48
      go_wp2_with fail
      all_goals go_round
      case rel => exact ⟨k + 1, by go_num, by omega, by show _ = _; rw [HDV.out]; exact HV.out⟩
      case measure => simp [intOf] <;> omega
    · have hcan : canonL (L.drop k) = true := by
        refine drop_canon HD.out hkL ?_
        by_cases h1 : k + 1 = L.length
        · exact .inl h1
        · refine .inr fun e => hcont ⟨by rw [HL.out] at h1; omega, e⟩
      have hst : (⟨(L.drop k).toArray⟩ : ByteArray) = str (val L) := str_eq _ (by simpa using hcan) (by simpa using HV.out)
      have hcv := run_convert_bytes_back (P := Tryd.prog) w 22 26 5 ⟨g, k, none⟩ (cap - k) (L.drop k) Tryd.underlying22 Tryd.underlying5 Tryd.underlying26 (fun j hj => by
        have hj' : k + j < L.length := by rw [List.length_drop] at hj; omega
        rw [Lib.add_plain, H.out.cell (k + j) hj', List.getElem_drop])
      rw [hst, List.length_drop, HL.out] at hcv
      by_cases hk1 : k + 1 < n
      · have hne : ((((L[k]'hkL).toNat : Nat) : Int) == 48) = false := by
          rw [beq_eq_false_iff_ne]; intro e
          refine hcont ⟨hk1, ?_⟩
          apply UInt8.toNat_inj.1
          have : (48 : UInt8).toNat = 48 := rfl
          omega
        obtain ⟨c, hc⟩ : ∃ c : Int, c = (((L[k]'hkL).toNat : Nat) : Int) := ⟨_, rfl⟩
        rw [← hc] at hcell hne
        clear hcont hcan hst hc
        go_wp2_with fail
        go_ret
        exact ⟨rfl, rfl⟩
      · clear hcont hcan hst hcell
        go_wp2_with fail
        go_ret
        exact ⟨rfl, rfl⟩

theorem mod_step (a k : Nat) : a % 10 ^ (k + 1) = a % 10 ^ k + 10 ^ k * (a / 10 ^ k % 10) := by rw [Nat.pow_succ, Nat.mod_mul]
theorem addR_step {S : List UInt8} {a b k c d : Nat} (hl : S.length = k) (h : val S + 10 ^ k * c = a % 10 ^ k + b % 10 ^ k) (hd : d = a / 10 ^ k % 10 + b / 10 ^ k % 10 + c) :
    val (UInt8.ofNat (48 + d % 10) :: S) + 10 ^ (k + 1) * (d / 10) = a % 10 ^ (k + 1) + b % 10 ^ (k + 1) := by
  have h1 : 10 ^ (k + 1) * (d / 10) + (d % 10) * 10 ^ k = 10 ^ k * d := by
    rw [Nat.pow_succ, Nat.mul_assoc, Nat.mul_comm (d % 10), ← Nat.mul_add, Nat.div_add_mod]
  have h2 : 10 ^ k * d = 10 ^ k * (a / 10 ^ k % 10) + 10 ^ k * (b / 10 ^ k % 10) + 10 ^ k * c := by rw [hd, Nat.mul_add, Nat.mul_add]
  rw [val_cons, ofNat_dig (Nat.mod_lt _ (by decide)), hl, mod_step, mod_step, show 48 + d % 10 - 48 = d % 10 by omega]
  omega
theorem all_cons' {S : List UInt8} {d : Nat} (h : S.all isD = true) (hd : d < 10) : (UInt8.ofNat (48 + d) :: S).all isD = true := by
  rw [List.all_cons, ofNat_isD hd, h]; rfl
theorem RowB.made {w : World} {B g n : Nat} (h : w.ownsRow B 5 1 (.slice (some ⟨g, 0, none⟩) n n) n (madeCells (Value.int .u8 0).cells (n * 1)).toList) : RowB w B g n n (dig0 n []) := by
  refine ⟨by rw [dig0_len]; simp, ?_⟩
  have e : c8 (dig0 n []) = (madeCells (Value.int .u8 0).cells (n * 1)).toList := by
    rw [show (Value.int .u8 0).cells = #[.int .u8 0] from rfl, toList_madeCells_one, Nat.mul_one]; simp [c8, dig0]
  rw [e]; exact h
theorem dig0_set' {N k : Nat} (S : List UInt8) (c : UInt8) (hk : k < N) : (dig0 (N - k) S).set (N - 1 - k) c = dig0 (N - (k + 1)) (c :: S) := by
  obtain ⟨q, hq⟩ : ∃ q, N = k + q + 1 := ⟨N - 1 - k, by omega⟩
  subst hq
  rw [show k + q + 1 - k = q + 1 by omega, show k + q + 1 - 1 - k = q by omega, show k + q + 1 - (k + 1) = q by omega, dig0_set]

set_option maxHeartbeats 3200000 in
set_option maxRecDepth 100000 in
theorem addR_any (a b : Nat) (w : World) (ha : (str a).size ≤ 450000) (hb : (str b).size ≤ 450000) :
    Calls Tryd.prog 11 #[.string (str a), .string (str b)] w fun e w' => e = .returned (.string (str (a + b))) ∧ Below w.heap.size w w' := by
  by_cases hq : (str a).size ≤ 18 ∧ (str b).size ≤ 18
  · have HA := Lib.hid (fun wx => quick_yes a wx hq.1)
    have HB := Lib.hid (fun wx => quick_yes b wx hq.2)
    have h1 := lt_of_size hq.1
    have h2 := lt_of_size hq.2
    obtain ⟨s, hs⟩ : ∃ s, s = a + b := ⟨_, rfl⟩
    have HO := Lib.hid (fun wx => ofR_any s wx (by omega))
    have hsi : (a : Int) + (b : Int) = (s : Int) := by omega
    have hwr : IntKind.u64.wrap (s : Int) = (s : Int) := by rw [IntKind.wrap_u64]; omega
    rw [← hs]
    clear hq h1 h2 hs
    go_enter Tryd.func11, Tryd.ntmps11
    go_wp2_with fail
    refine (HA.out _).mono ?_
    rintro e w1 ⟨rfl, rfl⟩
    go_wp2_with fail
    refine (HB.out _).mono ?_
    rintro e w1 ⟨rfl, rfl⟩
    go_wp2_with fail
    refine (HO.out _).mono ?_
    rintro e w1 ⟨rfl, h1⟩
    go_wp2_with fail
    go_ret
    exact ⟨rfl, h1⟩
  · obtain ⟨i0, hi, hz0, hz1, hz2⟩ := info_parts info8
    obtain ⟨x, bx, HA⟩ : ∃ (x : Nat) (bx : Bool), Hid (∀ wx, Calls Tryd.prog 26 #[.string (str a)] wx fun e w' => e = .returned (.tuple #[.int .u64 x, .bool bx]) ∧ wx = w') ∧ (bx = true → (str a).size ≤ 18) := by
      by_cases h : (str a).size ≤ 18
      · exact ⟨a, true, fun wx => quick_yes a wx h, fun _ => h⟩
      · exact ⟨0, false, fun wx => quick_no a wx (by omega), fun h => by cases h⟩
    obtain ⟨y, by', HB⟩ : ∃ (x : Nat) (bx : Bool), Hid (∀ wx, Calls Tryd.prog 26 #[.string (str b)] wx fun e w' => e = .returned (.tuple #[.int .u64 x, .bool bx]) ∧ wx = w') ∧ (bx = true → (str b).size ≤ 18) := by
      by_cases h : (str b).size ≤ 18
      · exact ⟨b, true, fun wx => quick_yes b wx h, fun _ => h⟩
      · exact ⟨0, false, fun wx => quick_no b wx (by omega), fun h => by cases h⟩
    obtain ⟨HA, HA2⟩ := HA
    obtain ⟨HB, HB2⟩ := HB
    have hbb : bx = false ∨ by' = false := by
      cases bx with
      | false => exact .inl rfl
      | true => cases by' with
                | false => exact .inr rfl
                | true => exact absurd ⟨HA2 rfl, HB2 rfl⟩ hq
    obtain ⟨N, hN⟩ : ∃ N : Nat, max ((str a).size : Int) ((str b).size : Int) + 1 = (N : Int) := ⟨max (str a).size (str b).size + 1, by omega⟩
    have hNb : N ≤ 450001 := by omega
    have hNa : (str a).size + 1 ≤ N := by omega
    have hNb2 : (str b).size + 1 ≤ N := by omega
    have hN0 : 0 < N := by omega
    have HDA := Lib.hid (fun (k : Nat) wx (hk : k ≤ 1000000) => digit_any a k wx (by omega) hk)
    have HDB := Lib.hid (fun (k : Nat) wx (hk : k ≤ 1000000) => digit_any b k wx (by omega) hk)
    have HLA := Lib.hid (lt_of_size (a := a) (n := N - 1) (by omega))
    have HLB := Lib.hid (lt_of_size (a := b) (n := N - 1) (by omega))
    clear hq HA2 HB2
    go_enter Tryd.func11, Tryd.ntmps11
    go_wp2_with fail
    refine (HA.out _).mono ?_
    rintro e w1 ⟨rfl, rfl⟩
    go_wp2_with fail
    refine (HB.out _).mono ?_
    rintro e w1 ⟨rfl, rfl⟩
    rcases hbb with rfl | rfl
    all_goals
      go_wp2_with (at_make; refine wpList_make_full _ rfl _ _ 22 rfl w.heap.size 5 i0 (.int .u8 0) 1 Tryd.underlying22 hi hz0 hz1 .i64 .i64 _ _ N rfl rfl rfl rfl (by rw [hz2]; omega) (by unfold maxLen; omega) (Nat.le_refl _) ?_; intro w0 hown0 hgrow0)
    all_goals
      have hbel0 : Below w.heap.size w w0 := (Below.refl _ _).grown hgrow0 (Nat.le_refl _) (by intro k hk; cases hk)
      have hrow0 := RowB.made hown0
      clear hown0 hgrow0
      go_wp2_with fail
      go_loopw [11, 12, 13] (fun cv iv _ wr => ∃ (k c : Nat) (S : List UInt8), iv = .int .i64 k ∧ k ≤ N ∧ cv = .int .i64 c ∧ c ≤ 1 ∧ Hid (S.length = k ∧ S.all isD = true ∧ val S + 10 ^ k * c = a % 10 ^ k + b % 10 ^ k) ∧ RowB wr w.heap.size w.heap.size N N (dig0 (N - k) S) ∧ Below w.heap.size w wr) (fun _ iv _ _ => N - (intOf iv).toNat)
      case atStart => exact ⟨0, 0, [], rfl, Nat.zero_le _, rfl, by omega, ⟨rfl, rfl, by simp [val, Nat.mod_one]⟩, hrow0, hbel0⟩
      case round =>
        obtain ⟨k, c, S, rfl, hk, rfl, hc, HI, hrow, hbel⟩ := hrel
        by_cases hlt : k < N
        · have hql : N - 1 - k < (dig0 (N - k) S).length := by rw [dig0_len]; omega
          obtain ⟨c0, hc0⟩ : ∃ c0 : Int, wr.cell? ⟨w.heap.size, N - 1 - k, none⟩ = some (.int .u8 c0) := ⟨_, hrow.cell _ hql⟩
          have hf0 := hrow.free (N - 1 - k)
          have HD1 := Lib.hid (fun wx => HDA.out k wx (by omega))
          have HD2 := Lib.hid (fun wx => HDB.out k wx (by omega))
          obtain ⟨da, hda⟩ : ∃ d, d = a / 10 ^ k % 10 := ⟨_, rfl⟩
          obtain ⟨db, hdb⟩ : ∃ d, d = b / 10 ^ k % 10 := ⟨_, rfl⟩
          have hda9 : da < 10 := by omega
          have hdb9 : db < 10 := by omega
          have hst := addR_step HI.1 HI.2.2 (show da + db + c = a / 10 ^ k % 10 + b / 10 ^ k % 10 + c by rw [hda, hdb])
          rw [← hda] at HD1
          rw [← hdb] at HD2
          have hset := hrow.set (N - 1 - k) (UInt8.ofNat (48 + (da + db + c) % 10))
          rw [dig0_set' _ _ hlt] at hset
          have ed : ((UInt8.ofNat (48 + (da + db + c) % 10)).toNat : Int) = 48 + ((da : Int) + (db : Int) + (c : Int)) % 10 := by rw [ofNat_dig (Nat.mod_lt _ (by decide))]; omega
          rw [ed] at hset
          have HST := Lib.hid hst
          have HSET := Lib.hid hset
          have HB2 := Lib.hid hbel
          have HAL := Lib.hid (all_cons' HI.2.1 (Nat.mod_lt (da + db + c) (show 0 < 10 by decide)))
          clear hst hset hbel hrow hda hdb ed hql
          go_wp2_with fail
          refine (HD1.out _).mono ?_
          rintro e w1 ⟨rfl, rfl⟩
          go_wp2_with fail
          refine (HD2.out _).mono ?_
          rintro e w1 ⟨rfl, rfl⟩
          go_wp2_with fail
          all_goals go_roundw
          case rel => exact ⟨k + 1, (da + db + c) / 10, UInt8.ofNat (48 + (da + db + c) % 10) :: S, by go_num, by omega, by go_num, by omega, ⟨by rw [List.length_cons, HI.1], HAL.out, HST.out⟩, HSET.out, HB2.out.setCell (Nat.le_refl _) _⟩
          case measure => simp [intOf] <;> omega
        · obtain rfl : k = N := by omega
          have hv : val S = a + b := by
            have h1 := HI.2.2
            have h2 := HLA.out
            have h3 := HLB.out
            have h4 : 10 ^ k = 10 ^ (k - 1) * 10 := by rw [← Nat.pow_succ]; congr 1; omega
            rw [Nat.mod_eq_of_lt (by omega), Nat.mod_eq_of_lt (by omega)] at h1
            rcases (show c = 0 ∨ c = 1 by omega) with h | h
            · rw [h] at h1; omega
            · rw [h] at h1; omega
          have hrow2 : RowB wr w.heap.size w.heap.size k k S := by
            have := hrow; rw [Nat.sub_self] at this; simpa [dig0] using this
          have ht := trimR_any _ _ _ k S wr hrow2 HI.2.1 hN0
          rw [hv] at ht
          have HT := Lib.hid ht
          have HB2 := Lib.hid hbel
          clear ht hv hrow hrow2 hbel
          go_wp2_with fail
          refine HT.out.mono ?_
          rintro e w1 ⟨rfl, rfl⟩
          go_wp2_with fail
          go_ret
          exact ⟨rfl, HB2.out⟩
end Go.Proofs.YtfhmdlpjeiockaaDoor
