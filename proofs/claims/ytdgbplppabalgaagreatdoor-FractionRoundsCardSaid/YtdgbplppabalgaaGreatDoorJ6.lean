/-
  Texts of one seat, joined: ZMul ZDown ZDiv BitLen.
-/
import Derived.Test.YtdgbplppabalgaaGreatDoorJ5
import Derived.Test.YtdgbplppabalgaaGreatDoorJ3
import Derived.Deep.RegionWith
import Derived.Laws.Bits64
namespace Go.Proofs.YtdgbplppabalgaaGreatDoor
open Go.RowKit

set_option maxHeartbeats 400000 in
theorem magW_any (z : Int) (w : World) (h1 : -1000000000000000000 < z) (h2 : z < 1000000000000000000) :
    Calls Tryz.prog 149 #[.int .i64 z] w fun e w' => e = .returned (.int .u64 (z.natAbs : Int)) ∧ w = w' := by
  have hm : max z (-z) = (z.natAbs : Int) := by omega
  have hw := IntWalk.i64_in (-z) ⟨by omega, by omega⟩
  have hu : IntKind.u64.wrap (z.natAbs : Int) = (z.natAbs : Int) := by rw [IntKind.wrap_u64]; omega
  obtain ⟨n, hn⟩ : ∃ n : Nat, n = z.natAbs := ⟨_, rfl⟩
  rw [← hn] at hm hu ⊢
  clear hn
  go_enter Tryz.func149, Tryz.ntmps149
  go_wp2_with fail
  go_ret
  exact ⟨rfl, rfl⟩
theorem mul_abs (x y : Int) : (x * y).natAbs = x.natAbs * y.natAbs := Int.natAbs_mul x y
def fitB (x y : Int) : Bool := decide (x.natAbs * y.natAbs ≤ 9223372036854775807)
set_option maxHeartbeats 1600000 in
theorem timesW_any (x y : Int) (w : World) (h1 : -1000000000000000000 < x) (h2 : x < 1000000000000000000) (h3 : -1000000000000000000 < y) (h4 : y < 1000000000000000000) :
    Calls Tryz.prog 139 #[.int .i64 x, .int .i64 y] w fun e w' => (∃ v : Int, e = .returned (.tuple #[.int .i64 v, .bool (fitB x y)]) ∧ (fitB x y = true → v = x * y)) ∧ w = w' := by
  have HX := Lib.hid (fun wx => magW_any x wx h1 h2)
  have HY := Lib.hid (fun wx => magW_any y wx h3 h4)
  obtain ⟨a, ha⟩ : ∃ a : Nat, a = x.natAbs := ⟨_, rfl⟩
  obtain ⟨b, hb⟩ : ∃ b : Nat, b = y.natAbs := ⟨_, rfl⟩
  have hxy := mul_abs x y
  rw [← ha] at HX hxy
  rw [← hb] at HY hxy
  have HM := Lib.hid (fun wx => Tryz.bits_Mul64 a b (by omega) (by omega) wx)
  have hf : fitB x y = decide (a * b ≤ 9223372036854775807) := by unfold fitB; rw [ha, hb]
  obtain ⟨P, hP⟩ : ∃ P, P = a * b := ⟨_, rfl⟩
  rw [← hP] at HM hxy hf
  obtain ⟨V, hV⟩ : ∃ V, V = IntKind.i64.wrap (x * y) := ⟨_, rfl⟩
  have HV := Lib.hid (show P ≤ 9223372036854775807 → V = x * y from fun h => by rw [hV]; exact IntWalk.i64_in _ ⟨by omega, by omega⟩)
  obtain ⟨F, hF⟩ : ∃ F, F = fitB x y := ⟨_, rfl⟩
  rw [← hF] at hf ⊢
  obtain ⟨H, hH⟩ : ∃ H : Nat, H = P / 18446744073709551616 := ⟨_, rfl⟩
  obtain ⟨L, hL⟩ : ∃ L : Nat, L = P % 18446744073709551616 := ⟨_, rfl⟩
  rw [← hH, ← hL] at HM
  have hVs := hV.symm
  by_cases hz : H = 0
  · have hzb : ((H : Int) == 0) = true := by rw [beq_iff_eq]; omega
    by_cases hl : L ≤ 9223372036854775807
    · have hlb : decide ((L : Int) ≤ 9223372036854775807) = true := decide_eq_true (by omega)
      have HF := Lib.hid (show F = true by rw [hf]; exact decide_eq_true (by omega))
      have HV2 := Lib.hid (HV.out (by omega))
      clear hz hl hf hH hL hP hF hxy ha hb hV HV
      go_enter Tryz.func139, Tryz.ntmps139
      go_wp2_with fail
      refine (HX.out _).mono ?_
      rintro e w1 ⟨rfl, rfl⟩
      go_wp2_with fail
      refine (HY.out _).mono ?_
      rintro e w1 ⟨rfl, rfl⟩
      go_wp2_with fail
      refine (HM.out _).mono ?_
      rintro e w1 ⟨rfl, hw1⟩
      obtain rfl := hw1
      go_wp2_with fail
      go_ret2
      exact ⟨⟨V, by rw [HF.out]; rfl, fun _ => HV2.out⟩, rfl⟩
    · have hlb : decide ((L : Int) ≤ 9223372036854775807) = false := decide_eq_false (by omega)
      have HF := Lib.hid (show F = false by rw [hf]; exact decide_eq_false (by omega))
      clear hz hl hf hH hL hP hF hxy ha hb hV HV
      go_enter Tryz.func139, Tryz.ntmps139
      go_wp2_with fail
      refine (HX.out _).mono ?_
      rintro e w1 ⟨rfl, rfl⟩
      go_wp2_with fail
      refine (HY.out _).mono ?_
      rintro e w1 ⟨rfl, rfl⟩
      go_wp2_with fail
      refine (HM.out _).mono ?_
      rintro e w1 ⟨rfl, hw1⟩
      obtain rfl := hw1
      go_wp2_with fail
      go_ret2
      exact ⟨⟨V, by rw [HF.out]; rfl, fun h => by rw [HF.out] at h; cases h⟩, rfl⟩
  · have hzb : ((H : Int) == 0) = false := by rw [beq_eq_false_iff_ne]; omega
    have HF := Lib.hid (show F = false by rw [hf]; exact decide_eq_false (by omega))
    clear hz hf hH hL hP hF hxy ha hb hV HV
    go_enter Tryz.func139, Tryz.ntmps139
    go_wp2_with fail
    refine (HX.out _).mono ?_
    rintro e w1 ⟨rfl, rfl⟩
    go_wp2_with fail
    refine (HY.out _).mono ?_
    rintro e w1 ⟨rfl, rfl⟩
    go_wp2_with fail
    refine (HM.out _).mono ?_
    rintro e w1 ⟨rfl, hw1⟩
    obtain rfl := hw1
    go_wp2_with fail
    go_ret2
    exact ⟨⟨V, by rw [HF.out]; rfl, fun h => by rw [HF.out] at h; cases h⟩, rfl⟩

theorem zsz_mul {a b n : Nat} (ha : (str a).size ≤ n) (hb : (str b).size ≤ n) (hn : 0 < n) : (str (a * b)).size ≤ n + n := by
  refine str_big ?_ (by omega)
  have h1 := lt_of_size ha
  have h2 := lt_of_size hb
  rw [Nat.pow_add]
  exact Nat.mul_lt_mul_of_lt_of_le h1 (Nat.le_of_lt h2) (Nat.pow_pos (by decide))
set_option maxHeartbeats 1600000 in
set_option maxRecDepth 100000 in
theorem mulW_any (x y : Int) (w : World) (hs : Std w) (hx : (str x.natAbs).size ≤ 400000) (hy : (str y.natAbs).size ≤ 400000) :
    Calls Tryz.prog 97 #[.string (zS x), .string (zS y)] w fun e w' => e = .returned (.string (zS (x * y))) ∧ Below w.heap.size w w' := by
  have HB := Lib.hid (both_any x y w hs (by omega) (by omega))
  have HSX := Lib.hid (fun wx => split_any x wx (by omega))
  have HSY := Lib.hid (fun wx => split_any y wx (by omega))
  have HS := Lib.hid hs
  have hsz := zsz_mul hx hy (by decide)
  have HMU := Lib.hid (fun wx hw => mul_any x.natAbs y.natAbs wx hw (by omega) (by omega))
  have hsg := fun wx => signed_any (decide (x < 0) != decide (y < 0)) (x.natAbs * y.natAbs) wx (by omega)
  have hv : x * y = if (decide (x < 0) != decide (y < 0)) = true then -((x.natAbs * y.natAbs : Nat) : Int) else ((x.natAbs * y.natAbs : Nat) : Int) := by
    have h0 := mul_abs x y
    rw [← h0]
    by_cases h1 : x < 0
    · by_cases h2 : y < 0
      · rw [decide_eq_true h1, decide_eq_true h2, if_neg (by decide)]
        have := Int.mul_pos_of_neg_of_neg h1 h2; omega
      · rw [decide_eq_true h1, decide_eq_false h2, if_pos (by decide)]
        have : x * y ≤ 0 := Int.mul_nonpos_of_nonpos_of_nonneg (by omega) (by omega)
        omega
    · by_cases h2 : y < 0
      · rw [decide_eq_false h1, decide_eq_true h2, if_pos (by decide)]
        have : x * y ≤ 0 := Int.mul_nonpos_of_nonneg_of_nonpos (by omega) (by omega)
        omega
      · rw [decide_eq_false h1, decide_eq_false h2, if_neg (by decide)]
        have : 0 ≤ x * y := Int.mul_nonneg (by omega) (by omega)
        omega
  simp only [← hv] at hsg
  have HT : Hid ((fewB x && fewB y) = true → ∀ wx, Calls Tryz.prog 139 #[.int .i64 x, .int .i64 y] wx fun e w' => (∃ v : Int, e = .returned (.tuple #[.int .i64 v, .bool (fitB x y)]) ∧ (fitB x y = true → v = x * y)) ∧ wx = w') := Lib.hid (fun h wx => by
    unfold fewB at h; simp at h
    exact timesW_any x y wx (by omega) (by omega) (by omega) (by omega))
  have HO : Hid (fitB x y = true → ∀ wx, Std wx → Calls Tryz.prog 72 #[.int .i64 (x * y)] wx fun e w' => e = .returned (.string (zS (x * y))) ∧ Below wx.heap.size wx w') := Lib.hid (fun h wx hw => by
    unfold fitB at h; simp at h
    have h0 := mul_abs x y
    exact ofW_any (x * y) wx hw (by omega) (by omega))
  obtain ⟨N, hN⟩ : ∃ N, N = decide (x < 0) := ⟨_, rfl⟩
  obtain ⟨M, hM⟩ : ∃ N, N = decide (y < 0) := ⟨_, rfl⟩
  rw [← hN] at HSX hsg
  rw [← hM] at HSY hsg
  obtain ⟨s, hs2⟩ : ∃ s, s = zS x := ⟨_, rfl⟩
  obtain ⟨t, ht⟩ : ∃ t, t = zS y := ⟨_, rfl⟩
  obtain ⟨p, hp⟩ : ∃ p, p = str x.natAbs := ⟨_, rfl⟩
  obtain ⟨q, hq⟩ : ∃ q, q = str y.natAbs := ⟨_, rfl⟩
  obtain ⟨r, hr⟩ : ∃ r, r = str (x.natAbs * y.natAbs) := ⟨_, rfl⟩
  obtain ⟨Z, hZ⟩ : ∃ Z, Z = zS (x * y) := ⟨_, rfl⟩
  obtain ⟨F, hF⟩ : ∃ F, F = (fewB x && fewB y) := ⟨_, rfl⟩
  obtain ⟨G, hG⟩ : ∃ G, G = fitB x y := ⟨_, rfl⟩
  rw [← hs2] at HB HSX ⊢
  rw [← ht] at HB HSY ⊢
  rw [← hp] at HSX HMU
  rw [← hq] at HSY HMU
  rw [← hr] at HMU hsg
  rw [← hZ] at hsg HO ⊢
  rw [← hF] at HB HT
  rw [← hG] at HT HO
  have HSG := Lib.hid hsg
  clear hs hx hy hsz hsg hv hN hM hs2 ht hp hq hr hZ hF hG
  cases F
  · clear HT HO
    cases N
    all_goals cases M
    all_goals
      go_enter Tryz.func97, Tryz.ntmps97
      go_wp2_with fail
      refine HB.out.mono ?_
      rintro e w1 ⟨⟨u, v, rfl, huv⟩, h1⟩
      have B1 := Lib.hid h1
      clear h1 huv
      go_wp2_with fail
      refine (HSX.out _).mono ?_
      rintro e w2 ⟨rfl, h2⟩
      have B2 := Lib.hid (B1.out.trans (h2.mono B1.out.size))
      clear h2
      go_wp2_with fail
      refine (HSY.out _).mono ?_
      rintro e w3 ⟨rfl, h3⟩
      have B3 := Lib.hid (B2.out.trans (h3.mono B2.out.size))
      clear h3
      go_wp2_with fail
      refine (HMU.out _ (HS.out.below B3.out)).mono ?_
      rintro e w4 ⟨rfl, h4⟩
      have B4 := Lib.hid (B3.out.trans (h4.mono B3.out.size))
      clear h4
      go_wp2_with fail
      refine (HSG.out _).mono ?_
      rintro e w5 ⟨rfl, rfl⟩
      go_wp2_with fail
      go_ret
      exact ⟨rfl, B4.out⟩
  · have HT2 := Lib.hid (HT.out rfl)
    clear HT
    cases G
    · clear HO
      cases N
      all_goals cases M
      all_goals
        go_enter Tryz.func97, Tryz.ntmps97
        go_wp2_with fail
        refine HB.out.mono ?_
        rintro e w1 ⟨⟨u, v, rfl, huv⟩, h1⟩
        obtain ⟨rfl, rfl⟩ := huv trivial
        have B1 := Lib.hid h1
        clear h1 huv
        go_wp2_with fail
        refine (HT2.out _).mono ?_
        rintro e w1 ⟨⟨v2, rfl, hv2⟩, rfl⟩
        clear hv2
        go_wp2_with fail
        refine (HSX.out _).mono ?_
        rintro e w2 ⟨rfl, h2⟩
        have B2 := Lib.hid (B1.out.trans (h2.mono B1.out.size))
        clear h2
        go_wp2_with fail
        refine (HSY.out _).mono ?_
        rintro e w3 ⟨rfl, h3⟩
        have B3 := Lib.hid (B2.out.trans (h3.mono B2.out.size))
        clear h3
        go_wp2_with fail
        refine (HMU.out _ (HS.out.below B3.out)).mono ?_
        rintro e w4 ⟨rfl, h4⟩
        have B4 := Lib.hid (B3.out.trans (h4.mono B3.out.size))
        clear h4
        go_wp2_with fail
        refine (HSG.out _).mono ?_
        rintro e w5 ⟨rfl, rfl⟩
        go_wp2_with fail
        go_ret
        exact ⟨rfl, B4.out⟩
    · have HO2 := Lib.hid (HO.out rfl)
      clear HO
      go_enter Tryz.func97, Tryz.ntmps97
      go_wp2_with fail
      refine HB.out.mono ?_
      rintro e w1 ⟨⟨u, v, rfl, huv⟩, h1⟩
      obtain ⟨rfl, rfl⟩ := huv trivial
      have B1 := Lib.hid h1
      clear h1 huv
      go_wp2_with fail
      refine (HT2.out _).mono ?_
      rintro e w1 ⟨⟨v2, rfl, hv2⟩, rfl⟩
      obtain rfl := hv2 trivial
      clear hv2
      go_wp2_with fail
      refine (HO2.out _ (HS.out.below B1.out)).mono ?_
      rintro e w2 ⟨rfl, h2⟩
      have B2 := Lib.hid (B1.out.trans (h2.mono B1.out.size))
      clear h2
      go_wp2_with fail
      go_ret
      exact ⟨rfl, B2.out⟩
end Go.Proofs.YtdgbplppabalgaaGreatDoor

namespace Go.Proofs.YtdgbplppabalgaaGreatDoor
open Go.RowKit

/-- whether the quotient that is cut off is one too great -/
def offB (m n : Int) : Bool := (m.tmod n != 0) && (decide (m.tmod n < 0) != decide (n < 0))
def dnQ (m n : Int) : Int := if offB m n = true then m.tdiv n - 1 else m.tdiv n
def dnR (m n : Int) : Int := if offB m n = true then m.tmod n + n else m.tmod n
theorem tdiv_small (m n : Int) (h1 : -1000000000000000000 < m) (h2 : m < 1000000000000000000) : -1000000000000000000 < m.tdiv n ∧ m.tdiv n < 1000000000000000000 := by
  have h := Int.natAbs_tdiv m n
  have h3 : (m.tdiv n).natAbs ≤ m.natAbs := by rw [h]; exact Nat.div_le_self _ _
  omega
theorem tmod_small (m n : Int) (h1 : -1000000000000000000 < m) (h2 : m < 1000000000000000000) : -1000000000000000000 < m.tmod n ∧ m.tmod n < 1000000000000000000 := by
  have h := Int.natAbs_tmod m n
  have h3 : (m.tmod n).natAbs ≤ m.natAbs := by rw [h]; exact Nat.mod_le _ _
  omega
set_option maxHeartbeats 1600000 in
theorem downW_any (m n : Int) (w : World) (hn : n ≠ 0) (h1 : -1000000000000000000 < m) (h2 : m < 1000000000000000000) (h3 : -1000000000000000000 < n) (h4 : n < 1000000000000000000) :
    Calls Tryz.prog 146 #[.int .i64 m, .int .i64 n] w fun e w' => e = .returned (.tuple #[.int .i64 (dnQ m n), .int .i64 (dnR m n)]) ∧ Below w.heap.size w w' := by
  obtain ⟨q1, q2⟩ := tdiv_small m n h1 h2
  obtain ⟨r1, r2⟩ := tmod_small m n h1 h2
  have HQ := Lib.hid (show dnQ m n = if offB m n = true then m.tdiv n - 1 else m.tdiv n from rfl)
  have HR := Lib.hid (show dnR m n = if offB m n = true then m.tmod n + n else m.tmod n from rfl)
  have HO := Lib.hid (show offB m n = ((m.tmod n != 0) && (decide (m.tmod n < 0) != decide (n < 0))) from rfl)
  obtain ⟨q, hq⟩ : ∃ q, q = m.tdiv n := ⟨_, rfl⟩
  obtain ⟨r, hr⟩ : ∃ r, r = m.tmod n := ⟨_, rfl⟩
  rw [← hq] at q1 q2 HQ
  rw [← hr] at r1 r2 HR HO
  have hq' := hq.symm
  have hr' := hr.symm
  have hnz : (n == 0) = false := by rw [beq_eq_false_iff_ne]; exact hn
  have wq := IntWalk.i64_in q ⟨by omega, by omega⟩
  have wr := IntWalk.i64_in r ⟨by omega, by omega⟩
  have wq1 := IntWalk.i64_in (q - 1) ⟨by omega, by omega⟩
  have wr1 := IntWalk.i64_in (r + n) ⟨by omega, by omega⟩
  obtain ⟨Q, hQ⟩ : ∃ Q, Q = dnQ m n := ⟨_, rfl⟩
  obtain ⟨R, hR⟩ : ∃ R, R = dnR m n := ⟨_, rfl⟩
  obtain ⟨O, hO⟩ : ∃ O, O = offB m n := ⟨_, rfl⟩
  rw [← hQ] at HQ ⊢
  rw [← hR] at HR ⊢
  rw [← hO] at HQ HR HO
  clear hq hr hQ hR hO
  by_cases hz : r = 0
  · have HO2 := Lib.hid (show O = false by rw [HO.out, hz]; rfl)
    have hzb : (r != 0) = false := by rw [hz]; rfl
    have HQ2 := Lib.hid (show Q = q by rw [HQ.out, HO2.out]; rfl)
    have HR2 := Lib.hid (show R = r by rw [HR.out, HO2.out]; rfl)
    clear hz HQ HR HO
    go_enter Tryz.func146, Tryz.ntmps146
    go_wp2_with fail
    go_quiet (fail)
    go_wp2_with fail
    go_ret2
    exact ⟨by rw [HQ2.out, HR2.out]; rfl, below_drewN (Below.refl _ _) _⟩
  · have hzb : (r != 0) = true := by simpa using hz
    by_cases hr0 : r < 0
    · by_cases hn0 : n < 0
      · have hrd : decide (r < 0) = true := decide_eq_true hr0
        have hnd : decide (n < 0) = true := decide_eq_true hn0
        have HO2 := Lib.hid (show O = false by rw [HO.out, hzb, hrd, hnd]; rfl)
        have HQ2 := Lib.hid (show Q = q by rw [HQ.out, HO2.out]; rfl)
        have HR2 := Lib.hid (show R = r by rw [HR.out, HO2.out]; rfl)
        clear hz HQ HR HO hr0 hn0
        go_enter Tryz.func146, Tryz.ntmps146
        go_wp2_with fail
        go_quiet (fail)
        go_wp2_with fail
        go_ret2
        exact ⟨by rw [HQ2.out, HR2.out]; rfl, below_drewN (Below.refl _ _) _⟩
      · have hrd : decide (r < 0) = true := decide_eq_true hr0
        have hnd : decide (n < 0) = false := decide_eq_false hn0
        have HO2 := Lib.hid (show O = true by rw [HO.out, hzb, hrd, hnd]; rfl)
        have HQ2 := Lib.hid (show Q = q - 1 by rw [HQ.out, HO2.out]; rfl)
        have HR2 := Lib.hid (show R = r + n by rw [HR.out, HO2.out]; rfl)
        clear hz HQ HR HO hr0 hn0
        go_enter Tryz.func146, Tryz.ntmps146
        go_wp2_with fail
        go_quiet (fail)
        go_wp2_with fail
        go_ret2
        exact ⟨by rw [HQ2.out, HR2.out]; rfl, below_drewN (Below.refl _ _) _⟩
    · by_cases hn0 : n < 0
      · have hrd : decide (r < 0) = false := decide_eq_false hr0
        have hnd : decide (n < 0) = true := decide_eq_true hn0
        have HO2 := Lib.hid (show O = true by rw [HO.out, hzb, hrd, hnd]; rfl)
        have HQ2 := Lib.hid (show Q = q - 1 by rw [HQ.out, HO2.out]; rfl)
        have HR2 := Lib.hid (show R = r + n by rw [HR.out, HO2.out]; rfl)
        clear hz HQ HR HO hr0 hn0
        go_enter Tryz.func146, Tryz.ntmps146
        go_wp2_with fail
        go_quiet (fail)
        go_wp2_with fail
        go_ret2
        exact ⟨by rw [HQ2.out, HR2.out]; rfl, below_drewN (Below.refl _ _) _⟩
      · have hrd : decide (r < 0) = false := decide_eq_false hr0
        have hnd : decide (n < 0) = false := decide_eq_false hn0
        have HO2 := Lib.hid (show O = false by rw [HO.out, hzb, hrd, hnd]; rfl)
        have HQ2 := Lib.hid (show Q = q by rw [HQ.out, HO2.out]; rfl)
        have HR2 := Lib.hid (show R = r by rw [HR.out, HO2.out]; rfl)
        clear hz HQ HR HO hr0 hn0
        go_enter Tryz.func146, Tryz.ntmps146
        go_wp2_with fail
        go_quiet (fail)
        go_wp2_with fail
        go_ret2
        exact ⟨by rw [HQ2.out, HR2.out]; rfl, below_drewN (Below.refl _ _) _⟩
end Go.Proofs.YtdgbplppabalgaaGreatDoor

namespace Go.Proofs.YtdgbplppabalgaaGreatDoor
open Go.RowKit

theorem dn_small (m n : Int) (h1 : -1000000000000000000 < m) (h2 : m < 1000000000000000000) (h3 : -1000000000000000000 < n) (h4 : n < 1000000000000000000) :
    (-2000000000000000000 ≤ dnQ m n ∧ dnQ m n ≤ 2000000000000000000) ∧ -2000000000000000000 ≤ dnR m n ∧ dnR m n ≤ 2000000000000000000 := by
  obtain ⟨q1, q2⟩ := tdiv_small m n h1 h2
  obtain ⟨r1, r2⟩ := tmod_small m n h1 h2
  unfold dnQ dnR
  split <;> omega
set_option maxHeartbeats 1600000 in
theorem divW_few (x y : Int) (w : World) (hs : Std w) (hf : (fewB x && fewB y) = true) (hy : y ≠ 0) :
    Calls Tryz.prog 107 #[.string (zS x), .string (zS y)] w fun e w' => e = .returned (.tuple #[.string (zS (dnQ x y)), .string (zS (dnR x y)), .int .i64 0]) ∧ Below w.heap.size w w' := by
  have hb : -1000000000000000000 < x ∧ x < 1000000000000000000 ∧ -1000000000000000000 < y ∧ y < 1000000000000000000 := by
    unfold fewB at hf; simp at hf; omega
  have hsx : (str x.natAbs).size ≤ 18 := str_big (n := 18) (by omega) (by decide)
  have hsy : (str y.natAbs).size ≤ 18 := str_big (n := 18) (by omega) (by decide)
  have hB := both_any x y w hs (by omega) (by omega)
  rw [hf] at hB
  have HB := Lib.hid hB
  have HD := Lib.hid (fun wx => downW_any x y wx hy (by omega) (by omega) (by omega) (by omega))
  obtain ⟨⟨q1, q2⟩, r1, r2⟩ := dn_small x y (by omega) (by omega) (by omega) (by omega)
  have HQ := Lib.hid (fun wx hw => ofW_any (dnQ x y) wx hw (by omega) (by omega))
  have HR := Lib.hid (fun wx hw => ofW_any (dnR x y) wx hw (by omega) (by omega))
  have HS := Lib.hid hs
  have hyb : (y != 0) = true := by simpa using hy
  obtain ⟨s, hs2⟩ : ∃ s, s = zS x := ⟨_, rfl⟩
  obtain ⟨t, ht⟩ : ∃ t, t = zS y := ⟨_, rfl⟩
  rw [← hs2] at HB ⊢
  rw [← ht] at HB ⊢
  obtain ⟨Q, hQ⟩ : ∃ Q, Q = dnQ x y := ⟨_, rfl⟩
  obtain ⟨R, hR⟩ : ∃ R, R = dnR x y := ⟨_, rfl⟩
  rw [← hQ] at HD HQ ⊢
  rw [← hR] at HD HR ⊢
  obtain ⟨u, hu⟩ : ∃ u, u = zS Q := ⟨_, rfl⟩
  obtain ⟨v, hv⟩ : ∃ u, u = zS R := ⟨_, rfl⟩
  rw [← hu] at HQ ⊢
  rw [← hv] at HR ⊢
  clear hs hf hb hsx hsy hB hs2 ht hQ hR hu hv q1 q2 r1 r2 hy
  go_enter Tryz.func107, Tryz.ntmps107
  go_wp2_with fail
  refine HB.out.mono ?_
  rintro e w1 ⟨⟨a, b, rfl, huv⟩, h1⟩
  obtain ⟨rfl, rfl⟩ := huv trivial
  have B1 := Lib.hid h1
  clear h1 huv
  go_wp2_with fail
  refine (HD.out _).mono ?_
  rintro e w2 ⟨rfl, h2⟩
  have B2 := Lib.hid (B1.out.trans (h2.mono B1.out.size))
  clear h2
  go_wp2_with fail
  refine (HQ.out _ (HS.out.below B2.out)).mono ?_
  rintro e w3 ⟨rfl, h3⟩
  have B3 := Lib.hid (B2.out.trans (h3.mono B2.out.size))
  clear h3
  go_wp2_with fail
  refine (HR.out _ (HS.out.below B3.out)).mono ?_
  rintro e w4 ⟨rfl, h4⟩
  have B4 := Lib.hid (B3.out.trans (h4.mono B3.out.size))
  clear h4
  go_wp2_with fail
  go_ret3
  exact ⟨rfl, B4.out⟩
end Go.Proofs.YtdgbplppabalgaaGreatDoor

namespace Go.Proofs.YtdgbplppabalgaaGreatDoor
open Go.RowKit

/-- k is the number of binary digits of N -/
def BitsOf (N k : Nat) : Prop := N < 2 ^ k ∧ (k = 0 ∨ 2 ^ (k - 1) ≤ N)
theorem BitsOf.unique {N k m : Nat} (h : BitsOf N k) (h' : BitsOf N m) : k = m := by
  have aux : ∀ {a b : Nat}, BitsOf N a → BitsOf N b → a ≤ b := fun {a b} ha hb => by
    apply Nat.le_of_not_lt; intro hlt
    rcases ha.2 with h0 | h1
    · omega
    · have h2 : 2 ^ b ≤ 2 ^ (a - 1) := Nat.pow_le_pow_right (by decide) (by omega)
      have := hb.1; omega
  exact Nat.le_antisymm (aux h h') (aux h' h)
theorem BitsOf.zero : BitsOf 0 0 := ⟨by decide, .inl rfl⟩
theorem bitsOf_bitLen {n : Nat} (h : n < 18446744073709551616) : BitsOf n (Lib.bitLen n) := by
  by_cases h0 : n = 0
  · subst h0; exact ⟨by decide, .inl (by decide)⟩
  · have h1 := Lib.bitLenAux_bounds 64 n (by omega) h0
    exact ⟨h1.2.2, .inr h1.2.1⟩
theorem BitsOf.shift {N j k : Nat} (h : BitsOf (N / 2 ^ j) k) (h0 : 0 < N / 2 ^ j) : BitsOf N (k + j) := by
  have hp : 0 < 2 ^ j := Nat.pow_pos (by decide)
  have hk : k ≠ 0 := by intro e; subst e; have := h.1; rw [Nat.pow_zero] at this; omega
  obtain ⟨h1, h2⟩ := h
  refine ⟨?_, .inr ?_⟩
  · rw [Nat.pow_add]; exact (Nat.div_lt_iff_lt_mul hp).1 h1
  · rcases h2 with h2 | h2
    · exact absurd h2 hk
    · rw [show k + j - 1 = (k - 1) + j by omega, Nat.pow_add]; exact (Nat.le_div_iff_mul_le hp).1 h2
theorem take_set {L Q : List Nat} {j v : Nat} (hj : j < L.length) : (L.take (j + 1) ++ Q).set j v = L.take j ++ (v :: Q) := by
  have hl : (L.take j).length = j := by rw [List.length_take]; omega
  rw [List.take_succ_eq_append_getElem hj, List.append_assoc, List.set_append_right _ _ (by omega), hl, Nat.sub_self]; rfl
theorem take_at {L Q : List Nat} {j : Nat} (hj : j < L.length) (h : j < (L.take (j + 1) ++ Q).length) : (L.take (j + 1) ++ Q)[j]'h = L[j] := by
  rw [List.getElem_append_left (by rw [List.length_take]; omega), List.getElem_take]
theorem and_mask (T : Nat) (h : T < 18446744073709551616) : bits BinOp.and IntKind.u64 (T : Int) 4294967295 = ((T % 4294967296 : Nat) : Int) := by
  have := bits_and_u64_nat T 4294967295 (by omega) (by omega)
  rw [show (4294967295 : Nat) = 2 ^ 32 - 1 from rfl, Nat.and_two_pow_sub_one_eq_mod] at this
  exact this


end Go.Proofs.YtdgbplppabalgaaGreatDoor
