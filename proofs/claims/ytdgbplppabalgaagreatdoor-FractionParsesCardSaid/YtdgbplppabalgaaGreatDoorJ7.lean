/-
  Texts of one seat, joined: Div64.
-/
import Derived.Test.YtdgbplppabalgaaGreatDoorJ2
import Derived.Test.YtdgbplppabalgaaGreatDoorJ3
import Derived.Test.YtdgbplppabalgaaGreatDoorJ6
namespace Go.Proofs.YtdgbplppabalgaaGreatDoor
open Go.RowKit

theorem wraps64 (n : Int) (h₀ : 0 ≤ n) (h₁ : n < 2 ^ 64) : IntKind.u64.wrap n = n := by rw [IntKind.wrap_u64]; omega
theorem u64and (a b : Nat) (ha : a < 2 ^ 64) (hb : b < 2 ^ 64) : bits .and .u64 (a : Int) (b : Int) = ((a &&& b : Nat) : Int) := (bits_nat .u64 64 (by decide) wraps64 a b ha hb).1
theorem u64or (a b : Nat) (ha : a < 2 ^ 64) (hb : b < 2 ^ 64) : bits .or .u64 (a : Int) (b : Int) = ((a ||| b : Nat) : Int) := (bits_nat .u64 64 (by decide) wraps64 a b ha hb).2
theorem low32 (V : Nat) (h : V < 2 ^ 64) : bits .and .u64 (V : Int) 4294967295 = ((V % 4294967296 : Nat) : Int) := by
  have h1 := u64and V 4294967295 h (by decide)
  have h2 : V &&& 4294967295 = V % 4294967296 := by
    rw [show (4294967295 : Nat) = 2 ^ 32 - 1 by decide, Nat.and_two_pow_sub_one_eq_mod]
  rw [h2] at h1; exact h1
structure Pack (hi lo y s Y a b H U V v x : Nat) : Prop where
  ybits : (s : Int) = 64 - (Lib.bitLen y : Int)
  s63 : s ≤ 63
  eY : Y = y * 2 ^ s
  Y0 : 9223372036854775808 ≤ Y
  Y1 : Y < 18446744073709551616
  eYi : IntKind.u64.wrap ((y : Int) * 2 ^ s) = (Y : Int)
  ea : (Y : Int) / 4294967296 = (a : Int)
  eb : bits BinOp.and IntKind.u64 (Y : Int) 4294967295 = (b : Int)
  eH : IntKind.u64.wrap ((hi : Int) * 2 ^ s) = (H : Int)
  eU : bits BinOp.or IntKind.u64 (H : Int) ((lo : Int) / 2 ^ (64 - s)) = (U : Int)
  eV : IntKind.u64.wrap ((lo : Int) * 2 ^ s) = (V : Int)
  V1 : V < 18446744073709551616
  ev : (V : Int) / 4294967296 = (v : Int)
  ex : bits BinOp.and IntKind.u64 (V : Int) 4294967295 = (x : Int)
  dv : DvIn U v a b
  x1 : x < 4294967296
  sum : Y = a * 4294967296 + b
  tot : (U * 4294967296 + v) * 4294967296 + x = (hi * 18446744073709551616 + lo) * 2 ^ s
theorem pack_of (hi lo y : Nat) (hy : hi < y) (hy2 : y < 18446744073709551616) (hlo : lo < 18446744073709551616) : ∃ s Y a b H U V v x, Pack hi lo y s Y a b H U V v x := by
  have hb := bitsOf_bitLen hy2
  obtain ⟨L, hL⟩ : ∃ L, L = Lib.bitLen y := ⟨_, rfl⟩
  rw [← hL] at hb
  have hL0 : L ≠ 0 := by
    intro e; have := hb.1; rw [e] at this; omega
  have hlow : 2 ^ (L - 1) ≤ y := by
    rcases hb.2 with h | h
    · exact absurd h hL0
    · exact h
  have hL64 : L - 1 < 64 := (Nat.pow_lt_pow_iff_right (a := 2) (by decide)).1 (show 2 ^ (L - 1) < 2 ^ 64 by omega)
  obtain ⟨s, hs⟩ : ∃ s, s = 64 - L := ⟨_, rfl⟩
  have hK0 : 0 < 2 ^ s := Nat.pow_pos (by decide)
  have k1 : 2 ^ (L - 1) * 2 ^ s = 9223372036854775808 := by rw [← Nat.pow_add, show L - 1 + s = 63 by omega]
  have k2 : 2 ^ L * 2 ^ s = 18446744073709551616 := by rw [← Nat.pow_add, show L + s = 64 by omega]
  have k3 : 2 ^ (64 - s) * 2 ^ s = 18446744073709551616 := by rw [← Nat.pow_add, show 64 - s + s = 64 by omega]
  have m1 : 2 ^ (L - 1) * 2 ^ s ≤ y * 2 ^ s := Nat.mul_le_mul_right _ hlow
  have m2 : y * 2 ^ s < 2 ^ L * 2 ^ s := Nat.mul_lt_mul_of_pos_right hb.1 hK0
  have m3 : (hi + 1) * 2 ^ s ≤ y * 2 ^ s := Nat.mul_le_mul_right _ hy
  rw [Nat.add_mul, Nat.one_mul] at m3
  have m4 : lo / 2 ^ (64 - s) < 2 ^ s := by
    apply Nat.div_lt_of_lt_mul; rw [k3]; exact hlo
  have m5 : lo * 2 ^ s / 18446744073709551616 = lo / 2 ^ (64 - s) := by rw [← k3, Nat.mul_div_mul_right _ _ hK0]
  have m6 := Nat.div_add_mod (lo * 2 ^ s) 18446744073709551616
  rw [m5] at m6
  have m7 := Nat.mod_lt (lo * 2 ^ s) (show 0 < 18446744073709551616 by decide)
  have m8 : hi * 2 ^ s + lo / 2 ^ (64 - s) = (hi * 2 ^ s) ||| (lo / 2 ^ (64 - s)) := by
    have := Nat.two_pow_add_eq_or_of_lt m4 hi
    rw [Nat.mul_comm (2 ^ s) hi] at this; exact this
  have m9 : lo / 2 ^ (64 - s) ≤ lo := Nat.div_le_self _ _
  have c1 : IntKind.u64.wrap ((y : Int) * 2 ^ s) = ((y * 2 ^ s : Nat) : Int) := by
    rw [show ((y : Int) * 2 ^ s) = ((y * 2 ^ s : Nat) : Int) by push_cast; rfl]
    exact wraps64 _ (by omega) (by omega)
  have c2 : IntKind.u64.wrap ((hi : Int) * 2 ^ s) = ((hi * 2 ^ s : Nat) : Int) := by
    rw [show ((hi : Int) * 2 ^ s) = ((hi * 2 ^ s : Nat) : Int) by push_cast; rfl]
    exact wraps64 _ (by omega) (by omega)
  have c3 : IntKind.u64.wrap ((lo : Int) * 2 ^ s) = ((lo * 2 ^ s % 18446744073709551616 : Nat) : Int) := by
    rw [show ((lo : Int) * 2 ^ s) = ((lo * 2 ^ s : Nat) : Int) by push_cast; rfl, IntKind.wrap_u64]
    generalize lo * 2 ^ s = z
    omega
  have c4 : ((lo : Int) / 2 ^ (64 - s)) = ((lo / 2 ^ (64 - s) : Nat) : Int) := by rw [Int.natCast_ediv]; simp
  have c5 : bits BinOp.or IntKind.u64 ((hi * 2 ^ s : Nat) : Int) ((lo : Int) / 2 ^ (64 - s)) = ((hi * 2 ^ s + lo / 2 ^ (64 - s) : Nat) : Int) := by
    rw [c4, u64or _ _ (by omega) (by omega), ← m8]
  have hsm : (hi * 18446744073709551616 + lo) * 2 ^ s = hi * 2 ^ s * 18446744073709551616 + lo * 2 ^ s := by rw [Nat.add_mul, Nat.mul_right_comm]
  have hmul := hs
  generalize hYe : y * 2 ^ s = Y at *
  generalize hHe : hi * 2 ^ s = H at *
  generalize hte : lo / 2 ^ (64 - s) = tt at *
  generalize hVe : lo * 2 ^ s = Z at *
  refine ⟨s, Y, Y / 4294967296, Y % 4294967296, H, H + tt, Z % 18446744073709551616, Z % 18446744073709551616 / 4294967296, Z % 18446744073709551616 % 4294967296, ?_⟩
  exact ⟨by omega, by omega, hYe.symm, by omega, by omega, c1, by omega, low32 _ (by omega), c2, c5, c3, by omega, by omega, low32 _ (by omega),
    ⟨by omega, by omega, by omega, by omega, by omega⟩, by omega, by omega, by rw [hsm]; omega⟩

theorem wrap_sub {U v m R : Nat} (h : m + R = U * 4294967296 + v) (hR : R < 18446744073709551616) : IntKind.u64.wrap (IntKind.u64.wrap (IntKind.u64.wrap ((U : Int) * 4294967296) + (v : Int)) - IntKind.u64.wrap (m : Int)) = (R : Int) := by
  simp only [IntKind.wrap_u64]
  omega
theorem div64_mid {hi lo y s Y a b H U V v x : Nat} (P : Pack hi lo y s Y a b H U V v x) : ∃ Q R m : Nat, Q = (U * 4294967296 + v) / (a * 4294967296 + b) ∧ m = Q * Y ∧ m + R = U * 4294967296 + v ∧ R < Y ∧ Q < 4294967296 ∧ DvIn R x a b ∧ R = (U * 4294967296 + v) % Y ∧
    IntKind.u64.wrap (IntKind.u64.wrap (IntKind.u64.wrap ((U : Int) * 4294967296) + (v : Int)) - IntKind.u64.wrap (m : Int)) = (R : Int) := by
  have hd := P.dv
  have hs := P.sum
  have hY1 := P.Y1
  have hY0 := P.Y0
  have e := Nat.div_add_mod (U * 4294967296 + v) Y
  have l := Nat.mod_lt (U * 4294967296 + v) (show 0 < Y by omega)
  rw [Nat.mul_comm] at e
  refine ⟨_, (U * 4294967296 + v) % Y, _, rfl, rfl, ?_, l, hd.lt, ⟨hd.a0, hd.a1, hd.b1, P.x1, by omega⟩, rfl, ?_⟩
  · rw [← hs]; exact e
  · rw [← hs]
    exact wrap_sub e (by omega)
theorem div64_fin {hi lo y s Y a b H U V v x Q R : Nat} (P : Pack hi lo y s Y a b H U V v x) (hQ : Q = (U * 4294967296 + v) / (a * 4294967296 + b)) (hR : R = (U * 4294967296 + v) % Y) (hI : DvIn R x a b) : ∃ q R2 m : Nat, q = (R * 4294967296 + x) / (a * 4294967296 + b) ∧ m = q * Y ∧ q < 4294967296 ∧
    IntKind.u64.wrap (IntKind.u64.wrap (IntKind.u64.wrap ((R : Int) * 4294967296) + (x : Int)) - IntKind.u64.wrap (m : Int)) = (R2 : Int) ∧ Q * 4294967296 + q = (hi * 18446744073709551616 + lo) / y ∧ R2 / 2 ^ s = (hi * 18446744073709551616 + lo) % y := by
  have hs := P.sum
  have hY1 := P.Y1
  have hY0 := P.Y0
  have e := Nat.div_add_mod (R * 4294967296 + x) Y
  have l := Nat.mod_lt (R * 4294967296 + x) (show 0 < Y by omega)
  rw [Nat.mul_comm] at e
  have t1 := dv_two (n := U * 4294967296 + v) (w := x) (y := Y) (by omega)
  rw [P.tot] at t1
  have t2 := dv_shift (n := hi * 18446744073709551616 + lo) (y := y) (k := 2 ^ s) (Nat.pow_pos (by decide))
  rw [← P.eY] at t2
  rw [← hs] at hQ
  rw [← hQ, ← hR, t2.1] at t1
  refine ⟨_, (R * 4294967296 + x) % Y, _, rfl, rfl, hI.lt, ?_, ?_, ?_⟩
  · rw [← hs]
    exact wrap_sub e (by omega)
  · rw [← hs]; exact t1.1
  · rw [t1.2]; exact t2.2

set_option maxHeartbeats 3200000 in
set_option maxRecDepth 100000 in
theorem div64_big (hi lo y : Nat) (h0 : 0 < hi) (hy : hi < y) (hy2 : y < 18446744073709551616) (hlo : lo < 18446744073709551616) (w : World) :
    Calls Tryz.prog 211 #[.int .u64 hi, .int .u64 lo, .int .u64 y] w fun e w' => e = .returned (.tuple #[.int .u64 (((hi * 18446744073709551616 + lo) / y : Nat) : Int), .int .u64 (((hi * 18446744073709551616 + lo) % y : Nat) : Int)]) ∧ w = w' := by
  have hlz := fun wx => Tryz.bits_LeadingZeros64 (y : Int) wx (by omega) (by omega)
  rw [Int.toNat_natCast] at hlz
  obtain ⟨s, Y, a, b, H, U, V, v, x, P⟩ := pack_of hi lo y hy hy2 hlo
  rw [← P.ybits] at hlz
  have HLZ := Lib.hid hlz
  have HP := Lib.hid P
  obtain ⟨hyb, hs63, heY, hY0, hY1, eYi, ea, eb, eH, eU, eV, hV1, ev, ex, hdv, hx1, hsum, htot⟩ := P
  have HDV := Lib.hid hdv
  obtain ⟨ha0, ha1, hb1, hv1, hU1⟩ := hdv
  obtain ⟨q, hq⟩ : ∃ q, q = U / a := ⟨_, rfl⟩
  have hst := Dv.start HDV.out
  rw [← hq] at hst
  obtain ⟨z, hz⟩ : ∃ z, z = q * a := ⟨_, rfl⟩
  rw [← hz] at hst
  obtain ⟨r, hr⟩ : ∃ r, r = U - z := ⟨_, rfl⟩
  rw [← hr] at hst
  have hzU : z + r = U := by have := hst.eq; rw [hz]; exact this
  have hra : r < a := by
    have h1 := Nat.div_add_mod U a
    have h2 := Nat.mod_lt U (show 0 < a by omega)
    rw [← hq, Nat.mul_comm, ← hz] at h1; omega
  have htd : (U : Int) / (a : Int) = (q : Int) := by rw [hq]; simp
  have hqa : (q : Int) * (a : Int) = (z : Int) := by rw [hz]; simp
  have hqs : q ≤ 4294967297 := hst.le
  have hanz : ((a : Int) == 0) = false := by rw [beq_eq_false_iff_ne]; omega
  have HST := Lib.hid hst
  clear hlz hq hz hr hst hyb heY htot hsum
  go_enter Tryz.func211, Tryz.ntmps211
  go_wp2_with (go_at_call 228; refine (HLZ.out _).mono ?_; rintro e w' ⟨rfl, hw⟩; obtain rfl := hw.symm)
  clear eYi eH eU eV
  go_loopw [15, 16] (fun qv rv wr => ∃ q r : Nat, qv = .int .u64 q ∧ rv = .int .u64 r ∧ q ≤ 4294967297 ∧ r < 4294967296 ∧ Hid (Dv U v a b q r) ∧ wr = w) (fun qv _ _ => (intOf qv).toNat)
  case atStart => exact ⟨q, r, rfl, by congr 1; omega, hqs, by omega, HST, rfl⟩
  case round =>
    obtain ⟨q, r, rfl, rfl, hq, hr, HD, hw⟩ := hrel
    obtain rfl := hw.symm
    clear hw htd hqa hzU hra hqs ea eb ev ex hY0 hY1 hV1 hU1 h0 hy hy2 hlo
    obtain ⟨p, hp⟩ : ∃ p, p = q * b := ⟨_, rfl⟩
    have hpi : (q : Int) * (b : Int) = (p : Int) := by rw [hp]; simp
    have hpb : p ≤ 18446744073709551615 := by rw [hp]; exact Nat.le_trans (Nat.mul_le_mul hq (show b ≤ 4294967295 by omega)) (by decide)
    obtain ⟨g, hg⟩ : ∃ g, g = 4294967296 * r := ⟨_, rfl⟩
    have hgi : (4294967296 : Int) * (r : Int) = (g : Int) := by omega
    have hgb : g ≤ 18446744069414584320 := by omega
    by_cases hc : 4294967296 ≤ q ∨ g + v < p
    · have hst := Dv.step HDV.out HD.out (by rw [← hp, ← hg]; exact hc)
      obtain ⟨hq1, hst2⟩ := hst
      obtain ⟨q', hq'⟩ : ∃ q', q' = q - 1 := ⟨_, rfl⟩
      obtain ⟨r', hr'⟩ : ∃ r', r' = r + a := ⟨_, rfl⟩
      rw [← hq', ← hr'] at hst2
      have HD2 := Lib.hid hst2
      have hqi : (q : Int) - 1 = (q' : Int) := by omega
      have hri : (r : Int) + (a : Int) = (r' : Int) := by omega
      have hqb : q' ≤ 4294967296 := by omega
      have hrb : r' < 8589934592 := by omega
      have HQL := Lib.hid (show q' < q by omega)
      have HC : Hid (decide ((q : Int) ≥ 4294967296) = true ∨ (decide ((q : Int) ≥ 4294967296) = false ∧ decide ((p : Int) > (g : Int) + (v : Int)) = true)) := by
        by_cases h : 4294967296 ≤ q
        · exact .inl (decide_eq_true (by omega))
        · exact .inr ⟨decide_eq_false (by omega), decide_eq_true (by omega)⟩
      clear hst2 hp hg hc HD hq' hr' hq1
      by_cases hr2 : 4294967296 ≤ r'
      · have hrd : decide ((r' : Int) ≥ 4294967296) = true := decide_eq_true (by omega)
        have HQ := Lib.hid (Dv.exit2 HDV.out HD2.out hqb hr2)
        clear hr2
        rcases HC.out with hc1 | ⟨hc1, hc2⟩
        all_goals
          obtain ⟨Q0, R, m, e1, e2, e3, hRY, hQ32, hI, e4, hRw⟩ := div64_mid HP.out
          obtain rfl : Q0 = q' := e1.trans HQ.out.symm
          have hRb : R < 18446744073709551616 := by have := HP.out.Y1; omega
          have hmi : (Q0 : Int) * (Y : Int) = (m : Int) := by rw [e2]; simp
          have HE4 := Lib.hid e4
          have HDV2 := Lib.hid hI
          obtain ⟨q2, hq2⟩ : ∃ q2, q2 = R / a := ⟨_, rfl⟩
          have hst3 := Dv.start hI
          rw [← hq2] at hst3
          obtain ⟨z2, hz2⟩ : ∃ z2, z2 = q2 * a := ⟨_, rfl⟩
          rw [← hz2] at hst3
          obtain ⟨r2, hr2⟩ : ∃ r2, r2 = R - z2 := ⟨_, rfl⟩
          rw [← hr2] at hst3
          have hzR2 : z2 + r2 = R := by have := hst3.eq; rw [hz2]; exact this
          have hra2 : r2 < a := by
            have h1 := Nat.div_add_mod R a
            have h2 := Nat.mod_lt R (show 0 < a by omega)
            rw [← hq2, Nat.mul_comm, ← hz2] at h1; omega
          have htd2 : (R : Int) / (a : Int) = (q2 : Int) := by rw [hq2]; simp
          have hqa2 : (q2 : Int) * (a : Int) = (z2 : Int) := by rw [hz2]; simp
          have hqs2 : q2 ≤ 4294967297 := hst3.le
          have HST2 := Lib.hid hst3
          clear e1 e2 e3 e4 hRY hI hq2 hz2 hr2 hst3
          go_wp2_with fail
          go_loopw [16, 18] (fun rv qv wr => ∃ q r : Nat, qv = .int .u64 q ∧ rv = .int .u64 r ∧ q ≤ 4294967297 ∧ r < 4294967296 ∧ Hid (Dv R x a b q r) ∧ wr = w) (fun _ qv _ => (intOf qv).toNat)
          case atStart => exact ⟨q2, r2, rfl, by congr 1; omega, hqs2, by omega, HST2, rfl⟩
          case round =>
            obtain ⟨q, r, rfl, rfl, hq, hr, HD, hw⟩ := hrel
            obtain rfl := hw.symm
            clear hw htd2 hqa2 hzR2 hra2 hqs2 hmi hRw
            obtain ⟨p, hp⟩ : ∃ p, p = q * b := ⟨_, rfl⟩
            have hpi : (q : Int) * (b : Int) = (p : Int) := by rw [hp]; simp
            have hpb : p ≤ 18446744073709551615 := by rw [hp]; exact Nat.le_trans (Nat.mul_le_mul hq (show b ≤ 4294967295 by omega)) (by decide)
            obtain ⟨g, hg⟩ : ∃ g, g = 4294967296 * r := ⟨_, rfl⟩
            have hgi : (4294967296 : Int) * (r : Int) = (g : Int) := by omega
            have hgb : g ≤ 18446744069414584320 := by omega
            by_cases hc : 4294967296 ≤ q ∨ g + x < p
            · have hst := Dv.step HDV2.out HD.out (by rw [← hp, ← hg]; exact hc)
              obtain ⟨hq1, hst2⟩ := hst
              obtain ⟨q', hq'⟩ : ∃ q', q' = q - 1 := ⟨_, rfl⟩
              obtain ⟨r', hr'⟩ : ∃ r', r' = r + a := ⟨_, rfl⟩
              rw [← hq', ← hr'] at hst2
              have HD2 := Lib.hid hst2
              have hqi : (q : Int) - 1 = (q' : Int) := by omega
              have hri : (r : Int) + (a : Int) = (r' : Int) := by omega
              have hqb : q' ≤ 4294967296 := by omega
              have hrb : r' < 8589934592 := by omega
              have HQL := Lib.hid (show q' < q by omega)
              have HC : Hid (decide ((q : Int) ≥ 4294967296) = true ∨ (decide ((q : Int) ≥ 4294967296) = false ∧ decide ((p : Int) > (g : Int) + (x : Int)) = true)) := by
                by_cases h : 4294967296 ≤ q
                · exact .inl (decide_eq_true (by omega))
                · exact .inr ⟨decide_eq_false (by omega), decide_eq_true (by omega)⟩
              clear hst2 hp hg hc HD hq' hr' hq1
              by_cases hr2 : 4294967296 ≤ r'
              · have hrd : decide ((r' : Int) ≥ 4294967296) = true := decide_eq_true (by omega)
                have HQ2 := Lib.hid (Dv.exit2 HDV2.out HD2.out hqb hr2)
                clear hr2
                rcases HC.out with hc1 | ⟨hc1, hc2⟩
                all_goals
                  obtain ⟨q9, R2, m2, f1, f2, hq32, hRw2, fq, fr⟩ := div64_fin HP.out HQ.out HE4.out HDV2.out
                  obtain rfl : q9 = q' := f1.trans HQ2.out.symm
                  have hmi2 : (q9 : Int) * (Y : Int) = (m2 : Int) := by rw [f2]; simp
                  obtain ⟨k1, hk1⟩ : ∃ k1, k1 = Q0 * 4294967296 := ⟨_, rfl⟩
                  have hk1i : (Q0 : Int) * 4294967296 = (k1 : Int) := by omega
                  have hk1b : k1 ≤ 18446744069414584320 := by omega
                  rw [← hk1] at fq
                  have HFQ := Lib.hid fq
                  have HFR := Lib.hid fr
                  clear f1 f2 hk1 fq fr
                  go_wp2_with fail
                  go_ret2
                  exact ⟨ret_two (a := .int .u64 ((k1 : Int) + (q9 : Int))) (c := .int .u64 ((R2 : Int) / 2 ^ s)) (by rw [← HFQ.out]; simp) (by rw [← HFR.out]; simp), rfl⟩
              · have hrd : decide ((r' : Int) ≥ 4294967296) = false := decide_eq_false (by omega)
                have hrb2 : r' < 4294967296 := by omega
                clear hr2
                rcases HC.out with hc1 | ⟨hc1, hc2⟩
                all_goals
                  go_wp2_with fail
                  refine ⟨⟨q', r', rfl, rfl, by omega, hrb2, HD2, trivial⟩, ?_⟩
                  have := HQL.out
                  simp [intOf] <;> omega
            · have hc1 : decide ((q : Int) ≥ 4294967296) = false := decide_eq_false (by omega)
              have hc2 : decide ((p : Int) > (g : Int) + (x : Int)) = false := decide_eq_false (by omega)
              have HQ2 := Lib.hid (Dv.exit HDV2.out HD.out (by rw [← hp, ← hg]; omega))
              clear hc hp hg HD
              obtain ⟨q9, R2, m2, f1, f2, hq32, hRw2, fq, fr⟩ := div64_fin HP.out HQ.out HE4.out HDV2.out
              obtain rfl : q9 = q := f1.trans HQ2.out.symm
              have hmi2 : (q9 : Int) * (Y : Int) = (m2 : Int) := by rw [f2]; simp
              obtain ⟨k1, hk1⟩ : ∃ k1, k1 = Q0 * 4294967296 := ⟨_, rfl⟩
              have hk1i : (Q0 : Int) * 4294967296 = (k1 : Int) := by omega
              have hk1b : k1 ≤ 18446744069414584320 := by omega
              rw [← hk1] at fq
              have HFQ := Lib.hid fq
              have HFR := Lib.hid fr
              clear f1 f2 hk1 fq fr
              go_wp2_with fail
              go_ret2
              exact ⟨ret_two (a := .int .u64 ((k1 : Int) + (q9 : Int))) (c := .int .u64 ((R2 : Int) / 2 ^ s)) (by rw [← HFQ.out]; simp) (by rw [← HFR.out]; simp), rfl⟩
      · have hrd : decide ((r' : Int) ≥ 4294967296) = false := decide_eq_false (by omega)
        have hrb2 : r' < 4294967296 := by omega
        clear hr2
        rcases HC.out with hc1 | ⟨hc1, hc2⟩
        all_goals
          go_wp2_with fail
          refine ⟨⟨q', r', rfl, rfl, by omega, hrb2, HD2, trivial⟩, ?_⟩
          have := HQL.out
          simp [intOf] <;> omega
    · have hc1 : decide ((q : Int) ≥ 4294967296) = false := decide_eq_false (by omega)
      have hc2 : decide ((p : Int) > (g : Int) + (v : Int)) = false := decide_eq_false (by omega)
      have HQ := Lib.hid (Dv.exit HDV.out HD.out (by rw [← hp, ← hg]; omega))
      clear hc hp hg HD
      obtain ⟨Q0, R, m, e1, e2, e3, hRY, hQ32, hI, e4, hRw⟩ := div64_mid HP.out
      obtain rfl : Q0 = q := e1.trans HQ.out.symm
      have hRb : R < 18446744073709551616 := by have := HP.out.Y1; omega
      have hmi : (Q0 : Int) * (Y : Int) = (m : Int) := by rw [e2]; simp
      have HE4 := Lib.hid e4
      have HDV2 := Lib.hid hI
      obtain ⟨q2, hq2⟩ : ∃ q2, q2 = R / a := ⟨_, rfl⟩
      have hst3 := Dv.start hI
      rw [← hq2] at hst3
      obtain ⟨z2, hz2⟩ : ∃ z2, z2 = q2 * a := ⟨_, rfl⟩
      rw [← hz2] at hst3
      obtain ⟨r2, hr2⟩ : ∃ r2, r2 = R - z2 := ⟨_, rfl⟩
      rw [← hr2] at hst3
      have hzR2 : z2 + r2 = R := by have := hst3.eq; rw [hz2]; exact this
      have hra2 : r2 < a := by
        have h1 := Nat.div_add_mod R a
        have h2 := Nat.mod_lt R (show 0 < a by omega)
        rw [← hq2, Nat.mul_comm, ← hz2] at h1; omega
      have htd2 : (R : Int) / (a : Int) = (q2 : Int) := by rw [hq2]; simp
      have hqa2 : (q2 : Int) * (a : Int) = (z2 : Int) := by rw [hz2]; simp
      have hqs2 : q2 ≤ 4294967297 := hst3.le
      have HST2 := Lib.hid hst3
      clear e1 e2 e3 e4 hRY hI hq2 hz2 hr2 hst3
      go_wp2_with fail
      go_loopw [16, 18] (fun rv qv wr => ∃ q r : Nat, qv = .int .u64 q ∧ rv = .int .u64 r ∧ q ≤ 4294967297 ∧ r < 4294967296 ∧ Hid (Dv R x a b q r) ∧ wr = w) (fun _ qv _ => (intOf qv).toNat)
      case atStart => exact ⟨q2, r2, rfl, by congr 1; omega, hqs2, by omega, HST2, rfl⟩
      case round =>
        obtain ⟨q, r, rfl, rfl, hq, hr, HD, hw⟩ := hrel
        obtain rfl := hw.symm
        clear hw htd2 hqa2 hzR2 hra2 hqs2 hmi hRw
        obtain ⟨p, hp⟩ : ∃ p, p = q * b := ⟨_, rfl⟩
        have hpi : (q : Int) * (b : Int) = (p : Int) := by rw [hp]; simp
        have hpb : p ≤ 18446744073709551615 := by rw [hp]; exact Nat.le_trans (Nat.mul_le_mul hq (show b ≤ 4294967295 by omega)) (by decide)
        obtain ⟨g, hg⟩ : ∃ g, g = 4294967296 * r := ⟨_, rfl⟩
        have hgi : (4294967296 : Int) * (r : Int) = (g : Int) := by omega
        have hgb : g ≤ 18446744069414584320 := by omega
        by_cases hc : 4294967296 ≤ q ∨ g + x < p
        · have hst := Dv.step HDV2.out HD.out (by rw [← hp, ← hg]; exact hc)
          obtain ⟨hq1, hst2⟩ := hst
          obtain ⟨q', hq'⟩ : ∃ q', q' = q - 1 := ⟨_, rfl⟩
          obtain ⟨r', hr'⟩ : ∃ r', r' = r + a := ⟨_, rfl⟩
          rw [← hq', ← hr'] at hst2
          have HD2 := Lib.hid hst2
          have hqi : (q : Int) - 1 = (q' : Int) := by omega
          have hri : (r : Int) + (a : Int) = (r' : Int) := by omega
          have hqb : q' ≤ 4294967296 := by omega
          have hrb : r' < 8589934592 := by omega
          have HQL := Lib.hid (show q' < q by omega)
          have HC : Hid (decide ((q : Int) ≥ 4294967296) = true ∨ (decide ((q : Int) ≥ 4294967296) = false ∧ decide ((p : Int) > (g : Int) + (x : Int)) = true)) := by
            by_cases h : 4294967296 ≤ q
            · exact .inl (decide_eq_true (by omega))
            · exact .inr ⟨decide_eq_false (by omega), decide_eq_true (by omega)⟩
          clear hst2 hp hg hc HD hq' hr' hq1
          by_cases hr2 : 4294967296 ≤ r'
          · have hrd : decide ((r' : Int) ≥ 4294967296) = true := decide_eq_true (by omega)
            have HQ2 := Lib.hid (Dv.exit2 HDV2.out HD2.out hqb hr2)
            clear hr2
            rcases HC.out with hc1 | ⟨hc1, hc2⟩
            all_goals
              obtain ⟨q9, R2, m2, f1, f2, hq32, hRw2, fq, fr⟩ := div64_fin HP.out HQ.out HE4.out HDV2.out
              obtain rfl : q9 = q' := f1.trans HQ2.out.symm
              have hmi2 : (q9 : Int) * (Y : Int) = (m2 : Int) := by rw [f2]; simp
              obtain ⟨k1, hk1⟩ : ∃ k1, k1 = Q0 * 4294967296 := ⟨_, rfl⟩
              have hk1i : (Q0 : Int) * 4294967296 = (k1 : Int) := by omega
              have hk1b : k1 ≤ 18446744069414584320 := by omega
              rw [← hk1] at fq
              have HFQ := Lib.hid fq
              have HFR := Lib.hid fr
              clear f1 f2 hk1 fq fr
              go_wp2_with fail
              go_ret2
              exact ⟨ret_two (a := .int .u64 ((k1 : Int) + (q9 : Int))) (c := .int .u64 ((R2 : Int) / 2 ^ s)) (by rw [← HFQ.out]; simp) (by rw [← HFR.out]; simp), rfl⟩
          · have hrd : decide ((r' : Int) ≥ 4294967296) = false := decide_eq_false (by omega)
            have hrb2 : r' < 4294967296 := by omega
            clear hr2
            rcases HC.out with hc1 | ⟨hc1, hc2⟩
            all_goals
              go_wp2_with fail
              refine ⟨⟨q', r', rfl, rfl, by omega, hrb2, HD2, trivial⟩, ?_⟩
              have := HQL.out
              simp [intOf] <;> omega
        · have hc1 : decide ((q : Int) ≥ 4294967296) = false := decide_eq_false (by omega)
          have hc2 : decide ((p : Int) > (g : Int) + (x : Int)) = false := decide_eq_false (by omega)
          have HQ2 := Lib.hid (Dv.exit HDV2.out HD.out (by rw [← hp, ← hg]; omega))
          clear hc hp hg HD
          obtain ⟨q9, R2, m2, f1, f2, hq32, hRw2, fq, fr⟩ := div64_fin HP.out HQ.out HE4.out HDV2.out
          obtain rfl : q9 = q := f1.trans HQ2.out.symm
          have hmi2 : (q9 : Int) * (Y : Int) = (m2 : Int) := by rw [f2]; simp
          obtain ⟨k1, hk1⟩ : ∃ k1, k1 = Q0 * 4294967296 := ⟨_, rfl⟩
          have hk1i : (Q0 : Int) * 4294967296 = (k1 : Int) := by omega
          have hk1b : k1 ≤ 18446744069414584320 := by omega
          rw [← hk1] at fq
          have HFQ := Lib.hid fq
          have HFR := Lib.hid fr
          clear f1 f2 hk1 fq fr
          go_wp2_with fail
          go_ret2
          exact ⟨ret_two (a := .int .u64 ((k1 : Int) + (q9 : Int))) (c := .int .u64 ((R2 : Int) / 2 ^ s)) (by rw [← HFQ.out]; simp) (by rw [← HFR.out]; simp), rfl⟩
end Go.Proofs.YtdgbplppabalgaaGreatDoor
