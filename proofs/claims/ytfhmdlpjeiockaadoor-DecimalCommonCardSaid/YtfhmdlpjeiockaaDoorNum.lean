/-
  Contracts of Mul, divide and DivMod by short numbers, Bits of small numbers.
-/
import Derived.Test.YtfhmdlpjeiockaaDoorMul
namespace Go.Proofs.YtfhmdlpjeiockaaDoor
open Go.RowKit

theorem Pcs.len_of_lt {p : List Nat} {a n : Nat} (h : Pcs p a) (ha : a < 1000000000 ^ n) : p.length ≤ n := by
  by_cases hp : p = []
  · subst hp; simp
  · have h1 := h.len_lower hp
    have h2 : (1000000000 : Nat) ^ (p.length - 1) < 1000000000 ^ n := by omega
    have h3 := (Nat.pow_lt_pow_iff_right (a := 1000000000) (by decide)).1 h2
    omega
theorem lt_of_size {a n : Nat} (hs : (str a).size ≤ n) : a < 10 ^ n := by
  have h1 := Lib.lt_pow_nDigits a
  rw [str_size] at hs
  have h2 : 10 ^ Lib.nDigits a ≤ 10 ^ n := Nat.pow_le_pow_right (by decide) hs
  omega
theorem Pcs.len_le {p : List Nat} {a n : Nat} (h : Pcs p a) (hs : (str a).size ≤ 9 * n) : p.length ≤ n :=
  h.len_of_lt (by have := lt_of_size hs; rw [pow9] at this; exact this)
theorem Pcs.mul_len {p q r : List Nat} {a b c : Nat} (hp : Pcs p a) (hq : Pcs q b) (hr : Pcs r c) (hc : c = a * b) : r.length ≤ p.length + q.length := by
  refine hr.len_of_lt ?_
  have h1 := pv_lt p hp.lt
  have h2 := pv_lt q hq.lt
  rw [hp.val] at h1
  rw [hq.val] at h2
  rw [hc, Nat.pow_add]
  exact Nat.mul_lt_mul'' h1 h2

set_option maxHeartbeats 1600000 in
theorem mul_any (a b : Nat) (w : World) (hs : Std w) (ha : (str a).size ≤ 450000) (hb : (str b).size ≤ 450000) :
    Calls Tryd.prog 35 #[.string (str a), .string (str b)] w fun e w' => e = .returned (.string (str (a * b))) ∧ Below w.heap.size w w' := by
  have HCUT := Lib.hid (fun wx => cutBoth_any a b wx (by omega) (by omega))
  by_cases h64 : a < 18446744073709551616 ∧ b < 18446744073709551616
  · have hm := fun wx => Tryd.bits_Mul64 a b h64.1 h64.2 wx
    have hby := both_yes a b h64.1 h64.2 w
    by_cases hhi : a * b < 18446744073709551616
    · rw [Nat.div_eq_of_lt hhi, Nat.mod_eq_of_lt hhi] at hm
      obtain ⟨v, hv⟩ : ∃ v : Nat, v = a * b := ⟨_, rfl⟩
      rw [← hv] at hm hhi ⊢
      have hof := fun wx hx => of_any v hhi wx hx
      have HM := Lib.hid hm
      have HBY := Lib.hid hby
      have HOF := Lib.hid hof
      clear hm hby hof hhi hv h64
      go_enter Tryd.func35, Tryd.ntmps35
      go_wp2_with fail
      refine HBY.out.mono ?_
      rintro e w1 ⟨rfl, hb1⟩
      go_wp2_with fail
      refine (HM.out _).mono ?_
      rintro e w2 ⟨rfl, rfl⟩
      go_wp2_with fail
      refine (HOF.out _ (hs.below hb1)).mono ?_
      rintro e w3 ⟨rfl, hb3⟩
      go_wp2_with fail
      go_ret
      exact ⟨rfl, hb1.trans (hb3.mono hb1.size)⟩
    · have hdv : 0 < a * b / 18446744073709551616 := Nat.div_pos (by omega) (by decide)
      obtain ⟨h, hh⟩ : ∃ h : Nat, h = a * b / 18446744073709551616 := ⟨_, rfl⟩
      obtain ⟨l, hl⟩ : ∃ l : Nat, l = a * b % 18446744073709551616 := ⟨_, rfl⟩
      rw [← hh, ← hl] at hm
      rw [← hh] at hdv
      have hb0 : ((h : Int) == 0) = false := by rw [beq_eq_false_iff_ne]; omega
      have HM := Lib.hid hm
      have HBY := Lib.hid hby
      clear hm hby hhi hh hl h64
      go_enter Tryd.func35, Tryd.ntmps35
      go_wp2_with fail
      refine HBY.out.mono ?_
      rintro e w1 ⟨rfl, hb1⟩
      go_wp2_with fail
      refine (HM.out _).mono ?_
      rintro e w2 ⟨rfl, rfl⟩
      go_wp2_with fail
      refine (HCUT.out _).mono ?_
      rintro e w3 ⟨g, cap, p, g', cap', q, rfl, hp, hq, hrp, hrq, hgg, hb3⟩
      have hlp := hp.len_le (n := 50000) (by omega)
      have hlq := hq.len_le (n := 50000) (by omega)
      have HMU := Lib.hid (multiply_any _ g cap g' cap' p q w3 hrp hrq hp.lt hq.lt (by omega) (by omega))
      have HP := Lib.hid hp
      have HQ := Lib.hid hq
      clear hp hq hrp hrq hgg
      go_wp2_with fail
      refine HMU.out.mono ?_
      rintro e w4 ⟨g2, cap2, r, rfl, hr, hrr, hb4⟩
      rw [HP.out.val, HQ.out.val] at hr
      have hlr := HP.out.mul_len HQ.out hr rfl
      have HJ := Lib.hid (join_any _ g2 cap2 r (a * b) w4 hrr hr (by omega))
      clear hr hrr
      go_wp2_with fail
      refine HJ.out.mono ?_
      rintro e w5 ⟨rfl, hb5⟩
      go_wp2_with fail
      go_ret
      exact ⟨rfl, ((hb1.trans (hb3.mono hb1.size)).trans (hb4.mono (Nat.le_trans hb1.size hb3.size))).trans (hb5.mono (Nat.le_trans (Nat.le_trans hb1.size hb3.size) hb4.size))⟩
  · have hbn := both_no a b h64 w hs
    have HBN := Lib.hid hbn
    clear hbn h64
    go_enter Tryd.func35, Tryd.ntmps35
    go_wp2_with fail
    refine HBN.out.mono ?_
    rintro e w1 ⟨x, y, rfl, hb1⟩
    go_wp2_with fail
    refine (HCUT.out _).mono ?_
    rintro e w3 ⟨g, cap, p, g', cap', q, rfl, hp, hq, hrp, hrq, hgg, hb3⟩
    have hlp := hp.len_le (n := 50000) (by omega)
    have hlq := hq.len_le (n := 50000) (by omega)
    have HMU := Lib.hid (multiply_any _ g cap g' cap' p q w3 hrp hrq hp.lt hq.lt (by omega) (by omega))
    have HP := Lib.hid hp
    have HQ := Lib.hid hq
    clear hp hq hrp hrq hgg
    go_wp2_with fail
    refine HMU.out.mono ?_
    rintro e w4 ⟨g2, cap2, r, rfl, hr, hrr, hb4⟩
    rw [HP.out.val, HQ.out.val] at hr
    have hlr := HP.out.mul_len HQ.out hr rfl
    have HJ := Lib.hid (join_any _ g2 cap2 r (a * b) w4 hrr hr (by omega))
    clear hr hrr
    go_wp2_with fail
    refine HJ.out.mono ?_
    rintro e w5 ⟨rfl, hb5⟩
    go_wp2_with fail
    go_ret
    exact ⟨rfl, ((hb1.trans (hb3.mono hb1.size)).trans (hb4.mono (Nat.le_trans hb1.size hb3.size))).trans (hb5.mono (Nat.le_trans (Nat.le_trans hb1.size hb3.size) hb4.size))⟩

/-- a new row of two numbers -/
theorem Row.two (w : World) (x y : Nat) : Row (w.alloc (.cells #[.int .u64 (x : Int), .int .u64 (y : Int)] 37)) w.heap.size w.heap.size 2 [x, y] :=
  ⟨rfl, .inr ⟨w.heap.size, 2, _, rfl, Nat.le_refl _, heap_alloc_new w _, Nat.le_refl _, by unfold maxLen; decide, rfl, rfl⟩⟩

set_option maxHeartbeats 1600000 in
set_option maxRecDepth 100000 in
theorem divide_small (B g cap g' cap' : Nat) (a b : List Nat) (w : World) (ha : Row w B g cap a) (hb : Row w B g' cap' b) (ha9 : lt9 a) (hb9 : lt9 b) (hla : a.length ≤ 200000) (hlb : b.length ≤ 2) (hb0 : 0 < pv b) (hb1 : pv b ≤ 18446744072) :
    Calls Tryd.prog 24 #[.slice (some ⟨g, 0, none⟩) a.length cap, .slice (some ⟨g', 0, none⟩) b.length cap'] w fun e w' => ∃ (h c : Nat) (q : List Nat) (h' c' : Nat) (r : List Nat), e = .returned (.tuple #[.slice (some ⟨h, 0, none⟩) q.length c, .slice (some ⟨h', 0, none⟩) r.length c']) ∧ Pcs q (pv a / pv b) ∧ Pcs r (pv a % pv b) ∧ Row w' w.heap.size h c q ∧ Row w' w.heap.size h' c' r ∧ Below w.heap.size w w' := by
  have hlc := ha.len_cap
  have hlc' := hb.len_cap
  unfold maxLen at hlc hlc'
  have HS := Lib.hid (short_yes B g' cap' b w hb hlb hb9)
  have HD := Lib.hid (fun wx (hw : Below w.heap.size w wx) => divideShort_small B g cap a (pv b) wx (ha.below hw) ha9 hb0 hb1 hla)
  have hm : pv a % pv b < pv b := Nat.mod_lt _ hb0
  obtain ⟨n, hn⟩ : ∃ n : Nat, n = pv b := ⟨_, rfl⟩
  obtain ⟨m, hme⟩ : ∃ m : Nat, m = pv a % pv b := ⟨_, rfl⟩
  rw [← hme] at HD hm ⊢
  rw [← hn] at HD hm HS hb1 hb0 ⊢
  clear ha hb ha9 hb9 hn hme
  go_enter Tryd.func24, Tryd.ntmps24
  go_wp2_with fail
  refine HS.out.mono ?_
  rintro e w1 ⟨rfl, hb1'⟩
  go_wp2_with fail
  refine (HD.out _ hb1').mono ?_
  rintro e w2 ⟨h, c, q, rfl, hq, hr, hb2⟩
  have hrt := Row.two w2 (m % 1000000000) (m / 1000000000)
  have e1 : ((m % 1000000000 : Nat) : Int) = (m : Int) % 1000000000 := by omega
  have e2 : ((m / 1000000000 : Nat) : Int) = (m : Int) / 1000000000 := by omega
  rw [e1, e2] at hrt
  have htr := trim_any w2.heap.size w2.heap.size 2 [m % 1000000000, m / 1000000000] _ hrt
  have h9r : lt9 [m % 1000000000, m / 1000000000] := by
    intro z hz; simp at hz; omega
  have hpr : pv [m % 1000000000, m / 1000000000] = m := by simp [pv]; omega
  have HT := Lib.hid htr
  have HRT := Lib.hid hrt
  have HQ := Lib.hid hq
  have HR := Lib.hid hr
  have H9R := Lib.hid h9r
  have HPR := Lib.hid hpr
  clear hq hr htr hrt e1 e2 h9r hpr
  go_wp2_with fail
  refine HT.out.mono ?_
  rintro e w3 ⟨rfl, rfl⟩
  go_wp2_with fail
  go_ret2
  have hbz : Below w2.heap.size w2 (w2.alloc (.cells #[.int .u64 ((m : Int) % 1000000000), .int .u64 ((m : Int) / 1000000000)] 37)) := (Below.refl _ _).alloc (Nat.le_refl _) _
  refine ⟨h, c, q, w2.heap.size, 2, trimP [m % 1000000000, m / 1000000000], rfl, HQ.out, ?_, ((HR.out.mono hb1'.size).below hbz), ?_, (hb1'.trans (hb2.mono hb1'.size)).trans (hbz.mono (Nat.le_trans hb1'.size hb2.size))⟩
  · have := Pcs.of_trim H9R.out
    rw [HPR.out] at this; exact this
  · have := HRT.out.take (trimP [m % 1000000000, m / 1000000000]).length (trimP_props _).2.2.2.1
    rw [← (trimP_props [m % 1000000000, m / 1000000000]).2.2.2.2] at this
    exact this.mono (Nat.le_trans hb1'.size hb2.size)

theorem pcs_short {q : List Nat} {b : Nat} (hq : Pcs q b) (hb : b < 1000000000000000000) : q.length ≤ 2 := hq.short (by omega)
theorem Pcs.div_len {q : List Nat} {a b n : Nat} (h : Pcs q (a / b)) (hs : (str a).size ≤ 9 * n) : q.length ≤ n :=
  h.len_of_lt (Nat.lt_of_le_of_lt (Nat.div_le_self a b) (by have := lt_of_size hs; rw [pow9] at this; exact this))
theorem pcs_pos {q : List Nat} {b : Nat} (hq : Pcs q b) (hb : 0 < b) : 0 < q.length := by
  apply Nat.pos_of_ne_zero; intro e
  rw [List.eq_nil_of_length_eq_zero e] at hq; have := hq.val; simp [pv] at this; omega

set_option maxHeartbeats 1600000 in
theorem divmod_small (a b : Nat) (w : World) (hs : Std w) (ha : (str a).size ≤ 450000) (ha64 : ¬ a < 18446744073709551616) (hb0 : 0 < b) (hb1 : b ≤ 18446744072) :
    Calls Tryd.prog 8 #[.string (str a), .string (str b)] w fun e w' => e = .returned (.tuple #[.string (str (a / b)), .string (str (a % b)), .int .i64 0]) ∧ Below w.heap.size w w' := by
  have hbs : (str b).size ≤ 20 := nd20 (by omega)
  have HCUT := Lib.hid (fun wx => cutBoth_any a b wx (by omega) (by omega))
  have HBN := Lib.hid (both_no a b (fun h => ha64 h.1) w hs)
  obtain ⟨dq, dr, hdq⟩ : ∃ d r : Nat, d = a / b ∧ r = a % b := ⟨_, _, rfl, rfl⟩
  rw [← hdq.1, ← hdq.2]
  have HDQ := Lib.hid hdq
  clear ha64 hdq
  go_enter Tryd.func8, Tryd.ntmps8
  go_wp2_with fail
  refine HBN.out.mono ?_
  rintro e w1 ⟨x, y, rfl, hb1'⟩
  go_wp2_with fail
  refine (HCUT.out _).mono ?_
  rintro e w3 ⟨g, cap, p, g', cap', q, rfl, hp, hq, hrp, hrq, hgg, hb3⟩
  have hlp := hp.len_le (n := 50000) (by omega)
  have hlq := pcs_short hq (by omega)
  have hlq0 := pcs_pos hq hb0
  have hqn : ((q.length : Int) == 0) = false := by rw [beq_eq_false_iff_ne]; omega
  have HDV := Lib.hid (divide_small _ g cap g' cap' p q w3 hrp hrq hp.lt hq.lt (by omega) hlq (by rw [hq.val]; exact hb0) (by rw [hq.val]; exact hb1))
  rw [hp.val, hq.val] at HDV
  have hlen : ∀ q', Pcs q' dq → q'.length ≤ 200000 := fun q' hq' => by
    rw [HDQ.out.1] at hq'
    have h1 := hq'.div_len (n := 50000) (by omega)
    omega
  have hlen' : ∀ q', Pcs q' dr → q'.length ≤ 200000 := fun q' hq' => by
    have h1 := hq'.len_of_lt (n := 2) (by have := Nat.mod_lt a hb0; rw [HDQ.out.2]; omega)
    omega
  rw [← HDQ.out.1, ← HDQ.out.2] at HDV
  have HL := Lib.hid hlen
  have HL' := Lib.hid hlen'
  have hsz := hrp.len_cap
  have hsz' := hrq.len_cap
  unfold maxLen at hsz hsz'
  clear hp hq hrp hrq hgg hlen hlen'
  go_wp2_with fail
  refine HDV.out.mono ?_
  rintro e w4 ⟨h, c, q1, h', c', r1, rfl, hq1, hr1, hrq1, hrr1, hb4⟩
  have HJ1 := Lib.hid (join_any _ h c q1 dq w4 hrq1 hq1 (HL.out q1 hq1))
  have HJ2 := Lib.hid (fun wx (hw : Below w4.heap.size w4 wx) => join_any _ h' c' r1 dr wx (hrr1.below hw) hr1 (HL'.out r1 hr1))
  clear hq1 hr1 hrq1 hrr1
  clear HL HL' HDV HCUT HBN
  go_wp2_with fail
  refine HJ1.out.mono ?_
  rintro e w5 ⟨rfl, hb5⟩
  go_wp2_with fail
  refine (HJ2.out _ hb5).mono ?_
  rintro e w6 ⟨rfl, hb6⟩
  go_wp2_with fail
  go_ret3
  have s1 := hb1'.size
  have s3 := hb3.size
  have s4 := hb4.size
  have s5 := hb5.size
  exact ⟨rfl, (((hb1'.trans (hb3.mono s1)).trans (hb4.mono (by omega))).trans (hb5.mono (by omega))).trans (hb6.mono (by omega))⟩

set_option maxHeartbeats 400000 in
theorem bits_small (a : Nat) (h : a < 18446744073709551616) (w : World) :
    Calls Tryd.prog 19 #[.string (str a)] w fun e w' => e = .returned (.int .i64 (Lib.bitLen a)) ∧ Below w.heap.size w w' := by
  have HS := Lib.hid (small_yes a h w)
  have hl := fun wx => Tryd.bits_Len64 (a : Int) wx (by omega) (by omega)
  rw [Int.toNat_natCast] at hl
  have HL := Lib.hid hl
  clear hl h
  go_enter Tryd.func19, Tryd.ntmps19
  go_wp2_with fail
  refine HS.out.mono ?_
  rintro e w1 ⟨rfl, hb⟩
  go_wp2_with fail
  refine (HL.out _).mono ?_
  rintro e w2 ⟨rfl, rfl⟩
  go_wp2_with fail
  go_ret
  exact ⟨rfl, hb⟩
end Go.Proofs.YtfhmdlpjeiockaaDoor
