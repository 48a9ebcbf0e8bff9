/-
  The walk of the law DecimalPowers.
-/
import Derived.Test.YtaghhkninggcnaaDoorExpsLaw
import Derived.Test.YtaghhkninggcnaaDoorRefMul
namespace Go.Proofs.YtaghhkninggcnaaDoor
open Go.RowKit

theorem str1 : str 1 = ⟨#[49]⟩ := (str_eq 1 (by decide) (by decide)).symm
theorem is0 (a : Nat) : ((str a).toList == [48]) = decide (a = 0) := by
  have := str_beq a 0
  rw [str0, show (⟨#[48]⟩ : ByteArray).toList = [48] by rw [tl]] at this; exact this
theorem is1 (a : Nat) : ((str a).toList == [49]) = decide (a = 1) := by
  have := str_beq a 1
  rw [str1, show (⟨#[49]⟩ : ByteArray).toList = [49] by rw [tl]] at this; exact this
theorem size_small {a : Nat} (h : a ≤ 1) : (str a).size ≤ 1 := str_big (by omega) (by decide)
theorem pow_small {a n : Nat} (h : a ≤ 1) : a ^ n ≤ 1 := by
  rcases (show a = 0 ∨ a = 1 by omega) with rfl | rfl
  · cases n <;> simp
  · simp
theorem size_lower {v n : Nat} (h : 10 ^ n ≤ v) : n < (str v).size := by
  apply Nat.lt_of_not_le; intro hle
  have h1 := lt_of_size hle
  omega
theorem pow_big1 {a n q : Nat} (hq : (str a).size = q + 1) (ha : 0 < a) : q * n < (str (a ^ n)).size := by
  refine size_lower ?_
  have h1 := pow_nDigits_le ha
  rw [← str_size, hq] at h1
  rw [Nat.pow_mul]
  exact Nat.pow_le_pow_left h1 n
theorem pow_big2 {a n : Nat} (ha : 2 ≤ a) : n / 4 < (str (a ^ n)).size := by
  refine size_lower ?_
  have h1 : (10 : Nat) ^ (n / 4) ≤ (2 ^ 4) ^ (n / 4) := Nat.pow_le_pow_left (by decide) _
  rw [← Nat.pow_mul] at h1
  have h2 : (2 : Nat) ^ (4 * (n / 4)) ≤ 2 ^ n := Nat.pow_le_pow_right (by decide) (by omega)
  have h3 : 2 ^ n ≤ a ^ n := Nat.pow_le_pow_left ha n
  omega

set_option maxHeartbeats 400000 in
theorem power_neg (s : ByteArray) (n : Int) (w : World) (h : n < 0) :
    Calls Tryd.prog 35 #[.string s, .int .i64 n] w fun e w' => e = .returned (.tuple #[.string ⟨#[]⟩, .int .i64 3]) ∧ w = w' := by
  go_enter Tryd.func35, Tryd.ntmps35
  go_wp2_with fail
  go_ret2
  exact ⟨rfl, rfl⟩

set_option maxHeartbeats 1600000 in
set_option maxRecDepth 100000 in
theorem powerR_any (a n : Nat) (w : World) (hn : n < 9223372036854775808) (h : a ≤ 1 ∨ (n ≤ 40 ∧ (str a).size ≤ 20)) :
    Calls Tryd.prog 36 #[.string (str a), .int .i64 n, .int .i64 1000] w fun e w' => e = .returned (.tuple #[.string (str (a ^ n)), .bool true]) ∧ Below w.heap.size w w' := by
  have i0 := is0 a
  have i1 := is1 a
  by_cases h1 : a = 1
  · subst h1
    have e0 : ((str 1).toList == [48]) = false := by rw [i0]; decide
    have e1 : ((str 1).toList == [49]) = true := by rw [i1]; decide
    rw [Nat.one_pow]
    clear i0 i1 h
    go_enter Tryd.func36, Tryd.ntmps36
    go_wp2_with fail
    go_ret2
    exact ⟨rfl, Below.refl _ _⟩
  · have e1 : ((str a).toList == [49]) = false := by rw [i1]; simpa using h1
    by_cases h0 : a = 0 ∧ 0 < n
    · obtain ⟨rfl, hp⟩ := h0
      have e0 : ((str 0).toList == [48]) = true := by rw [i0]; decide
      have hn' : (0 : Int) < (n : Int) := by omega
      rw [Nat.zero_pow hp]
      clear i0 i1 h h1 hp
      go_enter Tryd.func36, Tryd.ntmps36
      go_wp2_with fail
      go_ret2
      exact ⟨rfl, Below.refl _ _⟩
    · have hn40 : n ≤ 40 := by rcases h with h | h <;> omega
      have hsz : (str a).size ≤ 20 := by
        rcases h with h | h
        · have := size_small h; omega
        · exact h.2
      have HS1 := Lib.hid str1
      have HSZ := Lib.hid hsz
      have HR : Hid (((str a).toList == [48]) = true ∧ n = 0 ∨ ((str a).toList == [48]) = false) := by
        by_cases hz : a = 0
        · exact .inl ⟨by rw [i0]; simpa using hz, by omega⟩
        · exact .inr (by rw [i0]; simpa using hz)
      clear i0 i1 h h1 h0 hsz hn
      rcases HR.out with ⟨e0, hn0⟩ | e0
      all_goals
        go_enter Tryd.func36, Tryd.ntmps36
        go_wp2_with fail
        go_loopw [8, 9] (fun ov iv wr => ∃ i u : Nat, iv = .int .i64 i ∧ i ≤ n ∧ ov = .string (str u) ∧ Hid (u = a ^ i) ∧ Below w.heap.size w wr) (fun _ iv _ => n - (intOf iv).toNat)
        case atStart => exact ⟨0, 1, rfl, Nat.zero_le _, by rw [HS1.out], Lib.hid (Nat.pow_zero _).symm, Below.refl _ _⟩
        case round =>
          obtain ⟨i, u, rfl, hi, rfl, hu, hbel⟩ := hrel
          by_cases hlt : i < n
          · obtain ⟨v, hv⟩ : ∃ v : Nat, Hid (v = u * a) := ⟨u * a, Lib.hid rfl⟩
            have hs3 : ((str v).size : Int) ≤ 1000 := by
              have h0 : v = a ^ (i + 1) := by rw [hv.out, hu.out, Nat.pow_succ]
              rw [h0]
              have := size_pow_le HSZ.out (i + 1)
              have : 20 * (i + 1) ≤ 20 * 40 := Nat.mul_le_mul_left _ (by omega)
              omega
            have HM : Hid (∀ w : World, Calls Tryd.prog 32 #[.string (str u), .string (str a)] w fun e w' => e = .returned (.string (str v)) ∧ Below w.heap.size w w') := by
              have h1 : (str u).size ≤ 450000 := by
                rw [hu.out]
                have := size_pow_le HSZ.out i
                have : 20 * i ≤ 20 * 40 := Nat.mul_le_mul_left _ (by omega)
                omega
              refine Lib.hid fun w => ?_
              rw [hv.out]
              exact mulR_any u a w h1 (by have := HSZ.out; omega)
            have hvi : Hid (v = a ^ (i + 1)) := Lib.hid (by rw [hv.out, hu.out, Nat.pow_succ])
            have HB := Lib.hid hbel
            clear hv hu hbel
            go_wp2_with (go_at_call 32; refine (HM.out _).mono ?_; rintro e w' ⟨rfl, hb1⟩)
            all_goals
              refine ⟨⟨i + 1, v, by push_cast; rfl, by omega, rfl, hvi, HB.out.trans (hb1.mono HB.out.size)⟩, ?_⟩
              simp [intOf] <;> omega
          · obtain rfl : i = n := by omega
            have HB := Lib.hid hbel
            clear hbel
            go_wp2_with fail
            go_ret2
            exact ⟨by have h := hu.out; subst h; rfl, HB.out⟩
theorem max_bound {q N S : Nat} (h1 : q * N < S) (h2 : N / 4 < S) (hq : q ≤ 19) (hS : S ≤ 20000) : max (wrap64 ((q : Int) * min (N : Int) 30000)) (min (N : Int) 100000 / 4) ≤ 20000 := by
  obtain ⟨m, hm, hm2, hm3⟩ : ∃ m : Nat, min (N : Int) 30000 = (m : Int) ∧ m ≤ N ∧ m ≤ 30000 := ⟨min N 30000, by omega, by omega, by omega⟩
  have h3 : q * m ≤ q * N := Nat.mul_le_mul_left q hm2
  have h4 : q * m ≤ 19 * 30000 := Nat.mul_le_mul hq hm3
  rw [hm, show ((q : Int) * (m : Int)) = ((q * m : Nat) : Int) by push_cast; rfl, show wrap64 ((q * m : Nat) : Int) = ((q * m : Nat) : Int) by unfold wrap64; omega]
  omega
theorem powers_eq (a n : Nat) (hn : n < 9223372036854775808) (h : a ≤ 1 ∨ (n ≤ 40 ∧ (str a).size ≤ 20)) : ∃ v : Nat,
    Hid (∀ w, Std w → Calls Tryd.prog 35 #[.string (str a), .int .i64 n] w fun e w' => e = .returned (.tuple #[.string (str v), .int .i64 0]) ∧ Below w.heap.size w w') ∧
    Hid (∀ w, Calls Tryd.prog 36 #[.string (str a), .int .i64 n, .int .i64 1000] w fun e w' => e = .returned (.tuple #[.string (str v), .bool true]) ∧ Below w.heap.size w w') := by
  have hsz : (str (a ^ n)).size ≤ 20000 := by
    rcases h with h | h
    · have := size_small (pow_small (n := n) h); omega
    · have := size_pow_le h.2 n; omega
  have ha : (str a).size ≤ 20000 := by
    rcases h with h | h
    · have := size_small h; omega
    · omega
  exact ⟨a ^ n, Lib.hid fun w hs => pow_ok a n w hs ha hn hsz, Lib.hid fun w => powerR_any a n w hn h⟩

set_option maxHeartbeats 3200000 in
set_option maxRecDepth 100000 in
theorem powers_law (a1 : Option Addr) (l1 c1 : Nat) (z1 : List Int) (n : Int) (w : World) (hs : Std w) (r1 : IsRow .u8 w a1 l1 c1 z1) (wn : (Lit.int .i64 n).wf = true) :
    Calls Tryd.prog 9 #[.slice a1 l1 c1, .int .i64 n] w fun e w' => e = .returned (.bool true) ∧ Below w.heap.size w w' := by
  have bn := bounds_i64 wn
  have hlb := r1.len_bd
  have HS := Lib.hid hs
  have R1 := Lib.hid r1
  clear hs r1 wn
  by_cases hl : l1 ≤ 20
  · go_enter Tryd.func9, Tryd.ntmps9
    go_wp2_with fail
    refine (known_any _ HS.out).mono ?_
    rintro e w1 ⟨rfl, h1⟩
    have B1 := Lib.hid h1
    clear h1
    go_wp2_with fail
    refine (make_any a1 l1 c1 z1 _ (R1.out.below B1.out)).mono ?_
    rintro e w2 ⟨a, rfl, hn2, h2⟩
    have B2 := Lib.hid (B1.out.trans (h2.mono B1.out.size))
    have HN2 := Lib.hid hn2
    clear h2 hn2
    have SA : (str a).size ≤ 20 := str_big (Nat.lt_of_lt_of_le HN2.out (Nat.pow_le_pow_right (by decide) (by omega))) (by decide)
    by_cases hneg : n < 0
    · have HNP := Lib.hid (fun wx => power_neg (str a) n wx hneg)
      go_wp2_with fail
      refine (HNP.out _).mono ?_
      rintro e w3 ⟨rfl, rfl⟩
      go_wp2_with fail
      go_ret
      exact ⟨rfl, B2.out⟩
    · obtain ⟨N, rfl⟩ : ∃ N : Nat, n = N := ⟨n.toNat, by omega⟩
      have i0 := is0 a
      have i1 := is1 a
      by_cases he : a ≤ 1 ∨ N ≤ 40
      · obtain ⟨v, HP, HR⟩ := powers_eq a N (by omega) (by rcases he with h | h; exact .inl h; exact .inr ⟨h, SA⟩)
        have HC : Hid (N ≤ 40 ∨ (40 < N ∧ ((str a).toList == [48]) = true) ∨ (40 < N ∧ ((str a).toList == [48]) = false ∧ ((str a).toList == [49]) = true)) := by
          by_cases h40 : N ≤ 40
          · exact .inl h40
          · rcases (show a = 0 ∨ a = 1 by omega) with h | h
            · exact .inr (.inl ⟨by omega, by rw [i0, h]; decide⟩)
            · exact .inr (.inr ⟨by omega, by rw [i0, h]; decide, by rw [i1, h]; decide⟩)
        clear he i0 i1 SA
        go_wp2_with fail
        refine (HP.out _ (HS.out.below B2.out)).mono ?_
        rintro e w3 ⟨rfl, h3⟩
        have B3 := Lib.hid (B2.out.trans (h3.mono B2.out.size))
        clear h3
        rcases HC.out with hc | ⟨hc, hc1⟩ | ⟨hc, hc1, hc2⟩
        · go_wp2_with fail
          refine (HR.out _).mono ?_
          rintro e w4 ⟨rfl, h4⟩
          have B4 := Lib.hid (B3.out.trans (h4.mono B3.out.size))
          clear h4
          go_wp2_with fail
          go_ret
          exact ⟨rfl, B4.out⟩
        · go_wp2_with fail
          refine (HR.out _).mono ?_
          rintro e w4 ⟨rfl, h4⟩
          have B4 := Lib.hid (B3.out.trans (h4.mono B3.out.size))
          clear h4
          go_wp2_with fail
          go_ret
          exact ⟨rfl, B4.out⟩
        · go_wp2_with fail
          refine (HR.out _).mono ?_
          rintro e w4 ⟨rfl, h4⟩
          have B4 := Lib.hid (B3.out.trans (h4.mono B3.out.size))
          clear h4
          go_wp2_with fail
          go_ret
          exact ⟨rfl, B4.out⟩
      · have e0 : ((str a).toList == [48]) = false := by rw [i0]; simp; omega
        have e1 : ((str a).toList == [49]) = false := by rw [i1]; simp; omega
        have h40 : 40 < N := by omega
        obtain ⟨q, hq⟩ : ∃ q, (str a).size = q + 1 := ⟨(str a).size - 1, by have h := str_size a; have h2 := Lib.nDigits_pos a; omega⟩
        have HB1 := Lib.hid (pow_big1 (n := N) hq (by omega))
        have HB2 := Lib.hid (pow_big2 (a := a) (n := N) (by omega))
        have HP := Lib.hid (fun wx hx => power_any a N wx hx (by omega) (by omega) (by omega))
        clear i0 i1 he
        go_wp2_with fail
        refine (HP.out _ (HS.out.below B2.out)).mono ?_
        rintro e wp ⟨hpe, hp⟩
        have HBP := Lib.hid (B2.out.trans (hp.mono B2.out.size))
        clear hp
        rcases hpe with ⟨hsz, rfl⟩ | ⟨hsz, rfl⟩
        · have hM := max_bound HB1.out HB2.out (by omega) hsz
          clear hsz
          go_wp2_with fail
          go_ret
          exact ⟨rfl, HBP.out⟩
        · clear hsz
          by_cases hM : max (wrap64 ((q : Int) * min (N : Int) 30000)) (min (N : Int) 100000 / 4) ≤ 20000
          · go_wp2_with fail
            go_ret
            exact ⟨rfl, HBP.out⟩
          · go_wp2_with fail
            go_ret
            exact ⟨rfl, HBP.out⟩
  · go_enter Tryd.func9, Tryd.ntmps9
    go_wp2_with fail
    refine (known_any _ HS.out).mono ?_
    rintro e w1 ⟨rfl, h1⟩
    have B1 := Lib.hid h1
    clear h1
    go_wp2_with fail
    refine (known_any _ (HS.out.below B1.out)).mono ?_
    rintro e w2 ⟨rfl, h2⟩
    have B2 := Lib.hid (B1.out.trans (h2.mono B1.out.size))
    clear h2
    go_wp2_with fail
    go_ret
    exact ⟨rfl, B2.out⟩
end Go.Proofs.YtaghhkninggcnaaDoor
