/-
  Texts of one seat, joined: Num Pow Make Comp ZLeaf ZSign ZNeg.
-/
import Derived.Test.YtdgbplppabalgaaGreatDoorJ2
import Derived.Laws.Bits64
import Derived.Lib.RabinKarpLaws
import Derived.OpenShut
import Derived.RegionTactic
namespace Go.Proofs.YtdgbplppabalgaaGreatDoor
open Go.RowKit

theorem Pcs.len_of_lt {p : List Nat} {a n : Nat} (h : Pcs p a) (ha : a < 1000000000 ^ n) : p.length ≤ n := by
  by_cases hp : p = []
  · subst hp; simp
  · have h1 := h.len_lower hp
    have h2 : (1000000000 : Nat) ^ (p.length - 1) < 1000000000 ^ n := by omega
    have h3 := (Nat.pow_lt_pow_iff_right (a := 1000000000) (by decide)).1 h2
    omega
theorem lt_of_size {a n : Nat} (hs : (str a).size ≤ n) : a < 10 ^ n := by
  have h1 := Lib.lt_pow_nDigits a
  rw [str_size] at hs
  have h2 : 10 ^ Lib.nDigits a ≤ 10 ^ n := Nat.pow_le_pow_right (by decide) hs
  omega
theorem Pcs.len_le {p : List Nat} {a n : Nat} (h : Pcs p a) (hs : (str a).size ≤ 9 * n) : p.length ≤ n :=
  h.len_of_lt (by have := lt_of_size hs; rw [pow9] at this; exact this)
theorem Pcs.mul_len {p q r : List Nat} {a b c : Nat} (hp : Pcs p a) (hq : Pcs q b) (hr : Pcs r c) (hc : c = a * b) : r.length ≤ p.length + q.length := by
  refine hr.len_of_lt ?_
  have h1 := pv_lt p hp.lt
  have h2 := pv_lt q hq.lt
  rw [hp.val] at h1
  rw [hq.val] at h2
  rw [hc, Nat.pow_add]
  exact Nat.mul_lt_mul'' h1 h2

set_option maxHeartbeats 1600000 in
theorem mul_any (a b : Nat) (w : World) (hs : Std w) (ha : (str a).size ≤ 450000) (hb : (str b).size ≤ 450000) :
    Calls Tryz.prog 140 #[.string (str a), .string (str b)] w fun e w' => e = .returned (.string (str (a * b))) ∧ Below w.heap.size w w' := by
  have HCUT := Lib.hid (fun wx => cutBoth_any a b wx (by omega) (by omega))
  by_cases h64 : a < 18446744073709551616 ∧ b < 18446744073709551616
  · have hm := fun wx => Tryz.bits_Mul64 a b h64.1 h64.2 wx
    have hby := both_yes a b h64.1 h64.2 w
    by_cases hhi : a * b < 18446744073709551616
    · rw [Nat.div_eq_of_lt hhi, Nat.mod_eq_of_lt hhi] at hm
      obtain ⟨v, hv⟩ : ∃ v : Nat, v = a * b := ⟨_, rfl⟩
      rw [← hv] at hm hhi ⊢
      have hof := fun wx hx => of_any v hhi wx hx
      have HM := Lib.hid hm
      have HBY := Lib.hid hby
      have HOF := Lib.hid hof
      clear hm hby hof hhi hv h64
      go_enter Tryz.func140, Tryz.ntmps140
      go_wp2_with fail
      refine HBY.out.mono ?_
      rintro e w1 ⟨rfl, hb1⟩
      go_wp2_with fail
      refine (HM.out _).mono ?_
      rintro e w2 ⟨rfl, rfl⟩
      go_wp2_with fail
      refine (HOF.out _ (hs.below hb1)).mono ?_
      rintro e w3 ⟨rfl, hb3⟩
      go_wp2_with fail
      go_ret
      exact ⟨rfl, hb1.trans (hb3.mono hb1.size)⟩
    · have hdv : 0 < a * b / 18446744073709551616 := Nat.div_pos (by omega) (by decide)
      obtain ⟨h, hh⟩ : ∃ h : Nat, h = a * b / 18446744073709551616 := ⟨_, rfl⟩
      obtain ⟨l, hl⟩ : ∃ l : Nat, l = a * b % 18446744073709551616 := ⟨_, rfl⟩
      rw [← hh, ← hl] at hm
      rw [← hh] at hdv
      have hb0 : ((h : Int) == 0) = false := by rw [beq_eq_false_iff_ne]; omega
      have HM := Lib.hid hm
      have HBY := Lib.hid hby
      clear hm hby hhi hh hl h64
      go_enter Tryz.func140, Tryz.ntmps140
      go_wp2_with fail
      refine HBY.out.mono ?_
      rintro e w1 ⟨rfl, hb1⟩
      go_wp2_with fail
      refine (HM.out _).mono ?_
      rintro e w2 ⟨rfl, rfl⟩
      go_wp2_with fail
      refine (HCUT.out _).mono ?_
      rintro e w3 ⟨g, cap, p, g', cap', q, rfl, hp, hq, hrp, hrq, hgg, hb3⟩
      have hlp := hp.len_le (n := 50000) (by omega)
      have hlq := hq.len_le (n := 50000) (by omega)
      have HMU := Lib.hid (multiply_any _ g cap g' cap' p q w3 hrp hrq hp.lt hq.lt (by omega) (by omega))
      have HP := Lib.hid hp
      have HQ := Lib.hid hq
      clear hp hq hrp hrq hgg
      go_wp2_with fail
      refine HMU.out.mono ?_
      rintro e w4 ⟨g2, cap2, r, rfl, hr, hrr, hb4⟩
      rw [HP.out.val, HQ.out.val] at hr
      have hlr := HP.out.mul_len HQ.out hr rfl
      have HJ := Lib.hid (join_any _ g2 cap2 r (a * b) w4 hrr hr (by omega))
      clear hr hrr
      go_wp2_with fail
      refine HJ.out.mono ?_
      rintro e w5 ⟨rfl, hb5⟩
      go_wp2_with fail
      go_ret
      exact ⟨rfl, ((hb1.trans (hb3.mono hb1.size)).trans (hb4.mono (Nat.le_trans hb1.size hb3.size))).trans (hb5.mono (Nat.le_trans (Nat.le_trans hb1.size hb3.size) hb4.size))⟩
  · have hbn := both_no a b h64 w hs
    have HBN := Lib.hid hbn
    clear hbn h64
    go_enter Tryz.func140, Tryz.ntmps140
    go_wp2_with fail
    refine HBN.out.mono ?_
    rintro e w1 ⟨x, y, rfl, hb1⟩
    go_wp2_with fail
    refine (HCUT.out _).mono ?_
    rintro e w3 ⟨g, cap, p, g', cap', q, rfl, hp, hq, hrp, hrq, hgg, hb3⟩
    have hlp := hp.len_le (n := 50000) (by omega)
    have hlq := hq.len_le (n := 50000) (by omega)
    have HMU := Lib.hid (multiply_any _ g cap g' cap' p q w3 hrp hrq hp.lt hq.lt (by omega) (by omega))
    have HP := Lib.hid hp
    have HQ := Lib.hid hq
    clear hp hq hrp hrq hgg
    go_wp2_with fail
    refine HMU.out.mono ?_
    rintro e w4 ⟨g2, cap2, r, rfl, hr, hrr, hb4⟩
    rw [HP.out.val, HQ.out.val] at hr
    have hlr := HP.out.mul_len HQ.out hr rfl
    have HJ := Lib.hid (join_any _ g2 cap2 r (a * b) w4 hrr hr (by omega))
    clear hr hrr
    go_wp2_with fail
    refine HJ.out.mono ?_
    rintro e w5 ⟨rfl, hb5⟩
    go_wp2_with fail
    go_ret
    exact ⟨rfl, ((hb1.trans (hb3.mono hb1.size)).trans (hb4.mono (Nat.le_trans hb1.size hb3.size))).trans (hb5.mono (Nat.le_trans (Nat.le_trans hb1.size hb3.size) hb4.size))⟩

/-- a new row of two numbers -/
theorem Row.two (w : World) (x y : Nat) : Row (w.alloc (.cells #[.int .u64 (x : Int), .int .u64 (y : Int)] 135)) w.heap.size w.heap.size 2 [x, y] :=
  ⟨rfl, .inr ⟨w.heap.size, 2, _, rfl, Nat.le_refl _, heap_alloc_new w _, Nat.le_refl _, by unfold maxLen; decide, rfl, rfl⟩⟩

set_option maxHeartbeats 1600000 in
set_option maxRecDepth 100000 in
theorem divide_small (B g cap g' cap' : Nat) (a b : List Nat) (w : World) (ha : Row w B g cap a) (hb : Row w B g' cap' b) (ha9 : lt9 a) (hb9 : lt9 b) (hla : a.length ≤ 200000) (hlb : b.length ≤ 2) (hb0 : 0 < pv b) (hb1 : pv b ≤ 18446744072) :
    Calls Tryz.prog 181 #[.slice (some ⟨g, 0, none⟩) a.length cap, .slice (some ⟨g', 0, none⟩) b.length cap'] w fun e w' => ∃ (h c : Nat) (q : List Nat) (h' c' : Nat) (r : List Nat), e = .returned (.tuple #[.slice (some ⟨h, 0, none⟩) q.length c, .slice (some ⟨h', 0, none⟩) r.length c']) ∧ Pcs q (pv a / pv b) ∧ Pcs r (pv a % pv b) ∧ Row w' w.heap.size h c q ∧ Row w' w.heap.size h' c' r ∧ Below w.heap.size w w' := by
  have hlc := ha.len_cap
  have hlc' := hb.len_cap
  unfold maxLen at hlc hlc'
  have HS := Lib.hid (short_yes B g' cap' b w hb hlb hb9)
  have HD := Lib.hid (fun wx (hw : Below w.heap.size w wx) => divideShort_small B g cap a (pv b) wx (ha.below hw) ha9 hb0 hb1 hla)
  have hm : pv a % pv b < pv b := Nat.mod_lt _ hb0
  obtain ⟨n, hn⟩ : ∃ n : Nat, n = pv b := ⟨_, rfl⟩
  obtain ⟨m, hme⟩ : ∃ m : Nat, m = pv a % pv b := ⟨_, rfl⟩
  rw [← hme] at HD hm ⊢
  rw [← hn] at HD hm HS hb1 hb0 ⊢
  clear ha hb ha9 hb9 hn hme
  go_enter Tryz.func181, Tryz.ntmps181
  go_wp2_with fail
  refine HS.out.mono ?_
  rintro e w1 ⟨rfl, hb1'⟩
  go_wp2_with fail
  refine (HD.out _ hb1').mono ?_
  rintro e w2 ⟨h, c, q, rfl, hq, hr, hb2⟩
  have hrt := Row.two w2 (m % 1000000000) (m / 1000000000)
  have e1 : ((m % 1000000000 : Nat) : Int) = (m : Int) % 1000000000 := by omega
  have e2 : ((m / 1000000000 : Nat) : Int) = (m : Int) / 1000000000 := by omega
  rw [e1, e2] at hrt
  have htr := trim_any w2.heap.size w2.heap.size 2 [m % 1000000000, m / 1000000000] _ hrt
  have h9r : lt9 [m % 1000000000, m / 1000000000] := by
    intro z hz; simp at hz; omega
  have hpr : pv [m % 1000000000, m / 1000000000] = m := by simp [pv]; omega
  have HT := Lib.hid htr
  have HRT := Lib.hid hrt
  have HQ := Lib.hid hq
  have HR := Lib.hid hr
  have H9R := Lib.hid h9r
  have HPR := Lib.hid hpr
  clear hq hr htr hrt e1 e2 h9r hpr
  go_wp2_with fail
  refine HT.out.mono ?_
  rintro e w3 ⟨rfl, rfl⟩
  go_wp2_with fail
  go_ret2
  have hbz : Below w2.heap.size w2 (w2.alloc (.cells #[.int .u64 ((m : Int) % 1000000000), .int .u64 ((m : Int) / 1000000000)] 135)) := (Below.refl _ _).alloc (Nat.le_refl _) _
  refine ⟨h, c, q, w2.heap.size, 2, trimP [m % 1000000000, m / 1000000000], rfl, HQ.out, ?_, ((HR.out.mono hb1'.size).below hbz), ?_, (hb1'.trans (hb2.mono hb1'.size)).trans (hbz.mono (Nat.le_trans hb1'.size hb2.size))⟩
  · have := Pcs.of_trim H9R.out
    rw [HPR.out] at this; exact this
  · have := HRT.out.take (trimP [m % 1000000000, m / 1000000000]).length (trimP_props _).2.2.2.1
    rw [← (trimP_props [m % 1000000000, m / 1000000000]).2.2.2.2] at this
    exact this.mono (Nat.le_trans hb1'.size hb2.size)

theorem pcs_short {q : List Nat} {b : Nat} (hq : Pcs q b) (hb : b < 1000000000000000000) : q.length ≤ 2 := hq.short (by omega)
theorem Pcs.div_len {q : List Nat} {a b n : Nat} (h : Pcs q (a / b)) (hs : (str a).size ≤ 9 * n) : q.length ≤ n :=
  h.len_of_lt (Nat.lt_of_le_of_lt (Nat.div_le_self a b) (by have := lt_of_size hs; rw [pow9] at this; exact this))
theorem pcs_pos {q : List Nat} {b : Nat} (hq : Pcs q b) (hb : 0 < b) : 0 < q.length := by
  apply Nat.pos_of_ne_zero; intro e
  rw [List.eq_nil_of_length_eq_zero e] at hq; have := hq.val; simp [pv] at this; omega

set_option maxHeartbeats 1600000 in
theorem divmod_small (a b : Nat) (w : World) (hs : Std w) (ha : (str a).size ≤ 450000) (ha64 : ¬ a < 18446744073709551616) (hb0 : 0 < b) (hb1 : b ≤ 18446744072) :
    Calls Tryz.prog 147 #[.string (str a), .string (str b)] w fun e w' => e = .returned (.tuple #[.string (str (a / b)), .string (str (a % b)), .int .i64 0]) ∧ Below w.heap.size w w' := by
  have hbs : (str b).size ≤ 20 := nd20 (by omega)
  have HCUT := Lib.hid (fun wx => cutBoth_any a b wx (by omega) (by omega))
  have HBN := Lib.hid (both_no a b (fun h => ha64 h.1) w hs)
  obtain ⟨dq, dr, hdq⟩ : ∃ d r : Nat, d = a / b ∧ r = a % b := ⟨_, _, rfl, rfl⟩
  rw [← hdq.1, ← hdq.2]
  have HDQ := Lib.hid hdq
  clear ha64 hdq
  go_enter Tryz.func147, Tryz.ntmps147
  go_wp2_with fail
  refine HBN.out.mono ?_
  rintro e w1 ⟨x, y, rfl, hb1'⟩
  go_wp2_with fail
  refine (HCUT.out _).mono ?_
  rintro e w3 ⟨g, cap, p, g', cap', q, rfl, hp, hq, hrp, hrq, hgg, hb3⟩
  have hlp := hp.len_le (n := 50000) (by omega)
  have hlq := pcs_short hq (by omega)
  have hlq0 := pcs_pos hq hb0
  have hqn : ((q.length : Int) == 0) = false := by rw [beq_eq_false_iff_ne]; omega
  have HDV := Lib.hid (divide_small _ g cap g' cap' p q w3 hrp hrq hp.lt hq.lt (by omega) hlq (by rw [hq.val]; exact hb0) (by rw [hq.val]; exact hb1))
  rw [hp.val, hq.val] at HDV
  have hlen : ∀ q', Pcs q' dq → q'.length ≤ 200000 := fun q' hq' => by
    rw [HDQ.out.1] at hq'
    have h1 := hq'.div_len (n := 50000) (by omega)
    omega
  have hlen' : ∀ q', Pcs q' dr → q'.length ≤ 200000 := fun q' hq' => by
    have h1 := hq'.len_of_lt (n := 2) (by have := Nat.mod_lt a hb0; rw [HDQ.out.2]; omega)
    omega
  rw [← HDQ.out.1, ← HDQ.out.2] at HDV
  have HL := Lib.hid hlen
  have HL' := Lib.hid hlen'
  have hsz := hrp.len_cap
  have hsz' := hrq.len_cap
  unfold maxLen at hsz hsz'
  clear hp hq hrp hrq hgg hlen hlen'
  go_wp2_with fail
  refine HDV.out.mono ?_
  rintro e w4 ⟨h, c, q1, h', c', r1, rfl, hq1, hr1, hrq1, hrr1, hb4⟩
  have HJ1 := Lib.hid (join_any _ h c q1 dq w4 hrq1 hq1 (HL.out q1 hq1))
  have HJ2 := Lib.hid (fun wx (hw : Below w4.heap.size w4 wx) => join_any _ h' c' r1 dr wx (hrr1.below hw) hr1 (HL'.out r1 hr1))
  clear hq1 hr1 hrq1 hrr1
  clear HL HL' HDV HCUT HBN
  go_wp2_with fail
  refine HJ1.out.mono ?_
  rintro e w5 ⟨rfl, hb5⟩
  go_wp2_with fail
  refine (HJ2.out _ hb5).mono ?_
  rintro e w6 ⟨rfl, hb6⟩
  go_wp2_with fail
  go_ret3
  have s1 := hb1'.size
  have s3 := hb3.size
  have s4 := hb4.size
  have s5 := hb5.size
  exact ⟨rfl, (((hb1'.trans (hb3.mono s1)).trans (hb4.mono (by omega))).trans (hb5.mono (by omega))).trans (hb6.mono (by omega))⟩

end Go.Proofs.YtdgbplppabalgaaGreatDoor

namespace Go.Proofs.YtdgbplppabalgaaGreatDoor
open Go.RowKit

theorem nDigits_mono {a b : Nat} (h : a ≤ b) : Lib.nDigits a ≤ Lib.nDigits b := by
  refine nDigits_le (Lib.nDigits_pos b) ?_
  have := Lib.lt_pow_nDigits b; omega
theorem size_mono {a b : Nat} (h : a ≤ b) : (str a).size ≤ (str b).size := by rw [str_size, str_size]; exact nDigits_mono h
theorem size_pow {a m n : Nat} (hm : m ≤ n) (h : 20000 < (str (a ^ m)).size) : 20000 < (str (a ^ n)).size := by
  by_cases ha : a = 0
  · subst ha
    have : 0 ^ m < 10 ^ 1 := by cases m <;> simp
    have := str_big this (by decide); omega
  · exact Nat.lt_of_lt_of_le h (size_mono (Nat.pow_le_pow_right (by omega) hm))
theorem size_mul {a b n m : Nat} (ha : (str a).size ≤ n) (hb : (str b).size ≤ m) (h0 : 0 < n + m) : (str (a * b)).size ≤ n + m := by
  refine str_big ?_ h0
  rw [Nat.pow_add]
  exact Nat.mul_lt_mul'' (lt_of_size ha) (lt_of_size hb)
theorem pow_step {a n e v : Nat} (hv : v = a ^ (n / 2 ^ (e + 1))) : v * v * a ^ (n / 2 ^ e % 2) = a ^ (n / 2 ^ e) := by
  have h := Nat.div_add_mod (n / 2 ^ e) 2
  rw [Nat.div_div_eq_div_mul, ← Nat.pow_succ] at h
  conv => rhs; rw [← h]
  rw [Nat.pow_add, Nat.two_mul, Nat.pow_add, ← hv]
theorem bitLen_facts {n : Nat} (h0 : 0 < n) (h : n < 9223372036854775808) : 1 ≤ Lib.bitLen n ∧ Lib.bitLen n ≤ 63 ∧ n / 2 ^ (Lib.bitLen n - 1) = 1 := by
  have h1 := Lib.bitLenAux_bounds 64 n (by omega) (by omega)
  have e : Lib.bitLen n = Lib.bitLenAux 64 n := rfl
  rw [← e] at h1
  refine ⟨h1.1, Lib.bitLen_le n 63 (by decide) h, ?_⟩
  have h2 : 2 ^ Lib.bitLen n = 2 * 2 ^ (Lib.bitLen n - 1) := by
    conv => lhs; rw [show Lib.bitLen n = Lib.bitLen n - 1 + 1 by omega]
    rw [Nat.pow_succ]; omega
  have h3 : 0 < 2 ^ (Lib.bitLen n - 1) := Nat.pow_pos (by decide)
  apply Nat.le_antisymm
  · apply Nat.le_of_lt_succ
    rw [Nat.div_lt_iff_lt_mul h3]; omega
  · rw [Nat.le_div_iff_mul_le h3]; omega
theorem bit_is (n e : Nat) (hn : n < 9223372036854775808) : bits BinOp.and IntKind.i64 ((n : Int) / 2 ^ e) 1 = ((n / 2 ^ e % 2 : Nat) : Int) := by
  have e1 : ((n : Int) / 2 ^ e) = ((n / 2 ^ e : Nat) : Int) := by rw [Int.natCast_ediv]; simp
  have h2 := Nat.div_le_self n (2 ^ e)
  rw [e1]; exact Go.Proofs.and_one _ (by omega)
theorem bit_yes {n e : Nat} (hn : n < 9223372036854775808) (h : n / 2 ^ e % 2 = 1) : (bits BinOp.and IntKind.i64 ((n : Int) / 2 ^ e) 1 == 1) = true := by
  rw [bit_is n e hn, h]; rfl
theorem bit_no {n e : Nat} (hn : n < 9223372036854775808) (h : n / 2 ^ e % 2 = 0) : (bits BinOp.and IntKind.i64 ((n : Int) / 2 ^ e) 1 == 1) = false := by
  rw [bit_is n e hn, h]; rfl
def PowEnd (a n : Nat) (e : Ending) : Prop := ((str (a ^ n)).size ≤ 20000 ∧ e = .returned (.tuple #[.string (str (a ^ n)), .int .i64 0])) ∨ (20000 < (str (a ^ n)).size ∧ e = .returned (.tuple #[.string ⟨#[]⟩, .int .i64 4]))

end Go.Proofs.YtdgbplppabalgaaGreatDoor

namespace Go.Proofs.YtdgbplppabalgaaGreatDoor
open Go.RowKit

/-- what the walk is told of a slice of integers that came in -/
def IsRow (k : IntKind) (w : World) (a : Option Addr) (len cap : Nat) (zs : List Int) : Prop :=
  (a = none ∧ len = 0 ∧ cap = 0 ∧ zs = []) ∨
  ∃ x, a = some x ∧ len ≤ cap ∧ cap ≤ maxLen ∧ zs.length = cap ∧ (∀ i, i < zs.length → w.cell? (x.add i) = some (.int k (zs.getD i 0))) ∧ ∀ n ∈ zs, (Lit.int k n).wf = true
theorem IsRow.below {k : IntKind} {w w' : World} {a : Option Addr} {len cap : Nat} {zs : List Int} (h : IsRow k w a len cap zs) (hb : Below w.heap.size w w') : IsRow k w' a len cap zs := by
  rcases h with h | ⟨x, h1, h2, h3, h4, h5, h6⟩
  · exact .inl h
  · refine .inr ⟨x, h1, h2, h3, h4, fun i hi => ?_, h6⟩
    have hc := h5 i hi
    have hlt : (x.add i).block < w.heap.size := by
      apply Nat.lt_of_not_le; intro hle
      unfold World.cell? at hc
      rw [Array.getElem?_eq_none hle] at hc; simp at hc
    rw [hb.cell hlt]; exact hc
/-- the first len cells are bytes -/
theorem IsRow.cells {w : World} {a : Option Addr} {len cap : Nat} {zs : List Int} (h : IsRow .u8 w a len cap zs) (h0 : 0 < len) :
    ∃ b off, a = some ⟨b, off, none⟩ ∧ len ≤ cap ∧ cap ≤ maxLen ∧ ∀ i, i < len → ∃ z : Nat, z ≤ 255 ∧ w.cell? ⟨b, off + i, none⟩ = some (.int .u8 (z : Int)) := by
  rcases h with ⟨_, h, _⟩ | ⟨x, rfl, h2, h3, h4, h5, h6⟩
  · omega
  · obtain ⟨b, off, spot⟩ := x
    have hc := h5 0 (by omega)
    have hspot : spot = none := by simpa [Addr.add] using World.cell?_spot hc
    subst hspot
    refine ⟨b, off, rfl, h2, h3, fun i hi => ?_⟩
    have hi' : i < zs.length := by omega
    have hm : zs.getD i 0 ∈ zs := by rw [List.getD_eq_getElem?_getD, List.getElem?_eq_getElem hi']; exact List.getElem_mem _
    have hbd := bounds_u8 (h6 _ hm)
    refine ⟨(zs.getD i 0).toNat, by omega, ?_⟩
    have := h5 i hi'
    rw [Lib.add_plain] at this
    rw [this, Int.toNat_of_nonneg hbd.1]

theorem c8_append (l m : List UInt8) : c8 (l ++ m) = c8 l ++ c8 m := by simp [c8]
structure Digs (k : Nat) (L : List UInt8) : Prop where
  all : L.all isD = true
  head : L = [] ∨ L.head? ≠ some 48
  len : L.length ≤ k
theorem Digs.canon {k : Nat} {L : List UInt8} (h : Digs k L) (h0 : L ≠ []) : canonL L = true := by
  rcases h.head with h1 | h1
  · exact absurd h1 h0
  · unfold canonL headOk
    have h2 : L.isEmpty = false := by simpa using h0
    have h3 : (L.head? == some 48) = false := by simpa using h1
    rw [h.all, h2, h3]; simp
theorem Digs.snoc {k : Nat} {L : List UInt8} (h : Digs k L) (d : Nat) (hd : d < 10) (h0 : 0 < d ∨ L ≠ []) : Digs (k + 1) (L ++ [UInt8.ofNat (48 + d)]) := by
  refine ⟨?_, .inr ?_, by have := h.len; simp; omega⟩
  · rw [List.all_append, h.all, List.all_cons, ofNat_isD hd]; rfl
  · cases L with
    | nil =>
      intro e
      have e1 : UInt8.ofNat (48 + d) = 48 := by simpa using e
      have := congrArg UInt8.toNat e1
      rw [ofNat_dig hd] at this; simp at this; simp at h0; omega
    | cons c l => rcases h.head with h1 | h1
                  · cases h1
                  · simpa using h1
theorem Digs.mono {k k' : Nat} {L : List UInt8} (h : Digs k L) (hk : k ≤ k') : Digs k' L := ⟨h.all, h.head, by have := h.len; omega⟩
theorem Digs.lt {k : Nat} {L : List UInt8} (h : Digs k L) : val L < 10 ^ k := by
  have h1 := val_lt L h.all
  have h2 : 10 ^ L.length ≤ 10 ^ k := Nat.pow_le_pow_right (by decide) h.len
  omega

end Go.Proofs.YtdgbplppabalgaaGreatDoor

namespace Go.Proofs.YtdgbplppabalgaaGreatDoor
open Go.RowKit

def cmpN (a b : Nat) : Int := if a < b then -1 else if b < a then 1 else 0
theorem cmp_lt {a b : Nat} (h : a < b) : cmpN a b = -1 := by unfold cmpN; rw [if_pos h]
theorem cmp_gt {a b : Nat} (h : b < a) : cmpN a b = 1 := by unfold cmpN; rw [if_neg (by omega), if_pos h]
theorem cmp_eq (a : Nat) : cmpN a a = 0 := by unfold cmpN; rw [if_neg (by omega), if_neg (by omega)]
theorem val_cons_lt {c d : UInt8} {l m : List UInt8} (hl : l.length = m.length) (ha : l.all isD = true) (hc : isD c = true) (hd : isD d = true) (h : c < d) : val (c :: l) < val (d :: m) := by
  have h1 := val_lt l ha
  have h2 := isD_lt hc
  have h3 := isD_lt hd
  have h4 : c.toNat < d.toNat := h
  rw [val_cons, val_cons, ← hl]
  have : (c.toNat - 48 + 1) * 10 ^ l.length ≤ (d.toNat - 48) * 10 ^ l.length := Nat.mul_le_mul_right _ (by omega)
  rw [Nat.add_mul] at this; omega
theorem less_val : ∀ (l m : List UInt8), l.length = m.length → l.all isD = true → m.all isD = true →
    Op.bytesLess l m = decide (val l < val m) ∧ Lib.compareBytes l m = cmpN (val l) (val m) := by
  intro l
  induction l with
  | nil =>
    intro m hl _ _
    obtain rfl : m = [] := List.eq_nil_of_length_eq_zero (by simpa using hl.symm)
    exact ⟨by simp [Op.bytesLess], by simp [Lib.compareBytes, cmpN]⟩
  | cons c l ih =>
    intro m hl ha hb
    cases m with
    | nil => simp at hl
    | cons d m =>
      have hl' : l.length = m.length := by simpa using hl
      simp only [List.all_cons, Bool.and_eq_true] at ha hb
      obtain ⟨h1, h2⟩ := ih m hl' ha.2 hb.2
      rcases Nat.lt_trichotomy c.toNat d.toNat with h | h | h
      · have hcd : c < d := h
        have hv := val_cons_lt hl' ha.2 ha.1 hb.1 hcd
        rw [cmp_lt hv]
        exact ⟨by simp [Op.bytesLess, hcd, hv], by simp [Lib.compareBytes, hcd]⟩
      · obtain rfl : c = d := UInt8.toNat_inj.1 h
        have hv : val (c :: l) < val (c :: m) ↔ val l < val m := by rw [val_cons, val_cons, hl']; omega
        have hv' : val (c :: m) < val (c :: l) ↔ val m < val l := by rw [val_cons, val_cons, hl']; omega
        have hcc : ¬ c < c := UInt8.lt_irrefl c
        constructor
        · simp only [Op.bytesLess, h1, hv]; simp
        · simp only [Lib.compareBytes, if_neg hcc, h2, cmpN, hv, hv']
      · have hcd : d < c := h
        have hn : ¬ c < d := by intro h'; have h3 : c.toNat < d.toNat := h'; omega
        have hne : (c == d) = false := by rw [beq_eq_false_iff_ne]; intro e; subst e; omega
        have hv := val_cons_lt hl'.symm hb.2 hb.1 ha.1 hcd
        rw [cmp_gt hv]
        exact ⟨by simp [Op.bytesLess, hn, hne]; omega, by simp [Lib.compareBytes, hn, hcd]⟩
theorem str_less {a b : Nat} (h : Lib.nDigits a = Lib.nDigits b) : Op.bytesLess (str a).toList (str b).toList = decide (a < b) ∧ Lib.compareBytes (str a).data.toList (str b).data.toList = cmpN a b := by
  rw [tl, tl, str_list, str_list]
  have := less_val (Lib.decDigits a) (Lib.decDigits b) (by rw [Lib.decDigits_length, Lib.decDigits_length, h]) (all_dd a) (all_dd b)
  rw [val_dd, val_dd] at this; exact this
theorem str_beq (a b : Nat) : ((str a).toList == (str b).toList) = decide (a = b) := by
  rw [Bool.eq_iff_iff, beq_iff_eq, decide_eq_true_iff]
  constructor
  · intro h
    have h2 := congrArg val h
    rw [tl, tl, str_list, str_list, val_dd, val_dd] at h2; exact h2
  · intro h; rw [h]
theorem size_lt {a b : Nat} (h : (str a).size < (str b).size) : a < b := by
  apply Nat.lt_of_not_le; intro hle
  have := size_mono hle; omega

set_option maxHeartbeats 800000 in
theorem compare_any (a b : Nat) (w : World) :
    Calls Tryz.prog 137 #[.string (str a), .string (str b)] w fun e w' => e = .returned (.int .i64 (cmpN a b)) ∧ w = w' := by
  by_cases hs : (str a).size = (str b).size
  · have hn : (((str a).size : Int) != ((str b).size : Int)) = false := by simp [hs]
    have hl := (str_less (a := a) (b := b) (by rw [str_size, str_size] at hs; exact hs)).2
    have HC := Lib.hid (fun wx => Tryz.strings_Compare (str a) (str b) wx)
    rw [hl] at HC
    clear hs hl
    go_enter Tryz.func137, Tryz.ntmps137
    go_wp2_with fail
    refine (HC.out _).mono ?_
    rintro e w1 ⟨rfl, rfl⟩
    go_wp2_with fail
    go_ret
    exact ⟨rfl, rfl⟩
  · have hn : (((str a).size : Int) != ((str b).size : Int)) = true := by simp; omega
    have HC := Lib.hid (fun wx => Tryz.cmp_Compare_int ((str a).size : Int) ((str b).size : Int) wx)
    have hc : Lib.compareInt ((str a).size : Int) ((str b).size : Int) = cmpN a b := by
      unfold Lib.compareInt
      rcases Nat.lt_or_gt_of_ne hs with h | h
      · rw [if_pos (by omega), cmp_lt (size_lt h)]
      · rw [if_neg (by omega), if_pos (by omega), cmp_gt (size_lt h)]
    rw [hc] at HC
    clear hs hc
    go_enter Tryz.func137, Tryz.ntmps137
    go_wp2_with fail
    refine (HC.out _).mono ?_
    rintro e w1 ⟨rfl, rfl⟩
    go_wp2_with fail
    go_ret
    exact ⟨rfl, rfl⟩



end Go.Proofs.YtdgbplppabalgaaGreatDoor

namespace Go.Proofs.YtdgbplppabalgaaGreatDoor
open Go.RowKit

/-- the text of an integer -/
def zS (z : Int) : ByteArray := if z < 0 then ⟨#[45]⟩ ++ str z.natAbs else str z.natAbs
theorem zS_neg {z : Int} (h : z < 0) : zS z = ⟨#[45]⟩ ++ str z.natAbs := if_pos h
theorem zS_pos {z : Int} (h : ¬ z < 0) : zS z = str z.natAbs := if_neg h
theorem str_pos (n : Nat) : 0 < (str n).size := by
  rw [str_size]; exact Lib.nDigits_pos n
theorem str_hd (n : Nat) : (((str n)[0]'(str_pos n)).toNat : Int) ≠ 45 := by
  have h := at_list (str n) 0 (str_pos n)
  have hm : (str n)[0]'(str_pos n) ∈ (str n).data.toList := by rw [← h]; exact List.getElem_mem _
  rw [str_list] at hm
  have := List.all_eq_true.1 (all_dd n) _ hm
  have := isD_lt this
  omega
structure NegS (s : ByteArray) (n : Nat) : Prop where
  sz : s.size = (str n).size + 1
  pos : 0 < s.size
  hd : (s[0]'pos) = 45
  tl : s.extract 1 s.size = str n
theorem negS (n : Nat) : NegS (⟨#[45]⟩ ++ str n) n := by
  have hs : (⟨#[45]⟩ ++ str n : ByteArray).size = (str n).size + 1 := by
    rw [ByteArray.size_append]; show 1 + _ = _; omega
  have hd : (⟨#[45]⟩ ++ str n : ByteArray).data.toList = 45 :: (str n).data.toList := by
    rw [ByteArray.data_append]; simp
  refine ⟨hs, by omega, ?_, ?_⟩
  · have h := at_list (⟨#[45]⟩ ++ str n) 0 (by omega)
    rw [← h]; simp
  · apply ByteArray.ext
    rw [ByteArray.data_extract]
    apply Array.toList_inj.1
    rw [Array.toList_extract, hd, hs]
    simp [List.extract]
    exact List.take_of_length_le (by rw [len_list]; exact Nat.le_refl _)
set_option maxHeartbeats 800000 in
theorem split_any (z : Int) (w : World) (hz : (str z.natAbs).size ≤ 1000000) :
    Calls Tryz.prog 115 #[.string (zS z)] w fun e w' => e = .returned (.tuple #[.bool (decide (z < 0)), .string (str z.natAbs)]) ∧ Below w.heap.size w w' := by
  by_cases h : z < 0
  · rw [zS_neg h, decide_eq_true h]
    have hn := negS z.natAbs
    obtain ⟨s, hs⟩ : ∃ s, s = ⟨#[45]⟩ ++ str z.natAbs := ⟨_, rfl⟩
    rw [← hs] at hn ⊢
    obtain ⟨h1, h0, h2, h3⟩ := hn
    have hlim : s.size ≤ 1000001 := by omega
    have hb : (((s[0]'h0).toNat : Int) == 45) = true := by rw [h2]; rfl
    have H3 := Lib.hid h3
    have hp : (0 : Int) < s.size := by omega
    have h1' : 1 ≤ s.size := h0
    clear hs h3 h2 h1
    go_enter Tryz.func115, Tryz.ntmps115
    go_wp2_with fail
    go_quiet (fail)
    go_wp2_with fail
    go_ret2
    exact ⟨by rw [H3.out]; rfl, below_drewN (Below.refl _ _) _⟩
  · rw [zS_pos h, decide_eq_false h]
    have h0 := str_pos z.natAbs
    have hb := str_hd z.natAbs
    obtain ⟨s, hs⟩ : ∃ s, s = str z.natAbs := ⟨_, rfl⟩
    rw [← hs] at hz ⊢
    have h0' : 0 < s.size := by rw [hs]; exact h0
    have hb' : (((s[0]'h0').toNat : Int) == 45) = false := by
      rw [beq_eq_false_iff_ne]; subst hs; exact hb
    have hp : (0 : Int) < s.size := by omega
    clear hb h0 hs
    go_enter Tryz.func115, Tryz.ntmps115
    go_wp2_with fail
    go_ret2
    exact ⟨rfl, Below.refl _ _⟩
end Go.Proofs.YtdgbplppabalgaaGreatDoor

namespace Go.Proofs.YtdgbplppabalgaaGreatDoor
open Go.RowKit

def sgnI (z : Int) : Int := if z = 0 then 0 else if z < 0 then -1 else 1
theorem zS_zero : zS 0 = ⟨#[48]⟩ := by
  show str 0 = _
  exact (str_eq 0 (by decide) (by decide)).symm
theorem tl_ne {s : ByteArray} (h : s.toList ≠ [48]) : (s.toList == [48]) = false := by rw [beq_eq_false_iff_ne]; exact h
theorem str_tl (n : Nat) : (str n).toList = Lib.decDigits n := by rw [tl, str_list]
theorem dd0 : Lib.decDigits 0 = [48] := Lib.decDigits_one (by decide)
theorem str_not48 {n : Nat} (h : n ≠ 0) : (str n).toList ≠ [48] := by
  rw [str_tl]
  intro e
  have : str n = str 0 := by
    apply ByteArray.ext; apply Array.toList_inj.1
    rw [str_list, e, str_list, dd0]
  exact h (str_inj this)
theorem str_not0 (n : Nat) : (str n).toList ≠ [] := by
  rw [str_tl]; exact dd_ne n
theorem neg_tl (n : Nat) : (⟨#[45]⟩ ++ str n : ByteArray).toList = 45 :: Lib.decDigits n := by
  rw [tl, ByteArray.data_append, ← str_list]; simp
/-- what the walks ask of a text -/
structure ZF (s : ByteArray) (z : Int) : Prop where
  pos : 0 < s.size
  lim : s.size ≤ 1000001
  neg : (((s[0]'pos).toNat : Int) == 45) = decide (z < 0)
  zero : (s.toList == [48]) = decide (z = 0)
  nil : (s.toList == []) = false
theorem zF (z : Int) (hz : (str z.natAbs).size ≤ 1000000) : ZF (zS z) z := by
  by_cases h : z < 0
  · have hn := negS z.natAbs
    rw [zS_neg h]
    refine ⟨hn.pos, by have := hn.sz; omega, by rw [hn.hd, decide_eq_true h]; rfl, ?_, ?_⟩
    · rw [neg_tl, decide_eq_false (by omega)]; rfl
    · rw [neg_tl]; rfl
  · rw [zS_pos h]
    refine ⟨str_pos _, by omega, by rw [decide_eq_false h, beq_eq_false_iff_ne]; exact str_hd _, ?_, ?_⟩
    · by_cases h0 : z = 0
      · subst h0; rw [decide_eq_true rfl, str_tl, show Int.natAbs 0 = 0 from rfl, dd0]; rfl
      · rw [decide_eq_false h0]; exact tl_ne (str_not48 (by omega))
    · rw [beq_eq_false_iff_ne]; exact str_not0 _
set_option maxHeartbeats 800000 in
theorem sign_any (z : Int) (w : World) (hz : (str z.natAbs).size ≤ 1000000) :
    Calls Tryz.prog 65 #[.string (zS z)] w fun e w' => e = .returned (.int .i64 (sgnI z)) ∧ w = w' := by
  have hf := zF z hz
  obtain ⟨s, hs⟩ : ∃ s, s = zS z := ⟨_, rfl⟩
  rw [← hs] at hf ⊢
  obtain ⟨h0, h1, h2, h3, h4⟩ := hf
  rcases (by omega : z = 0 ∨ z < 0 ∨ 0 < z) with h | h | h
  · subst h
    rw [decide_eq_true rfl] at h3
    clear hs h2 hz
    go_enter Tryz.func65, Tryz.ntmps65
    go_wp2_with fail
    go_ret
    exact ⟨rfl, rfl⟩
  · have HV := Lib.hid (show sgnI z = -1 by unfold sgnI; rw [if_neg (by omega), if_pos h])
    rw [decide_eq_true h] at h2
    rw [decide_eq_false (by omega)] at h3
    clear hs hz
    go_enter Tryz.func65, Tryz.ntmps65
    go_wp2_with fail
    go_ret
    exact ⟨by rw [HV.out]; rfl, rfl⟩
  · have HV := Lib.hid (show sgnI z = 1 by unfold sgnI; rw [if_neg (by omega), if_neg (by omega)])
    rw [decide_eq_false (by omega)] at h2 h3
    clear hs hz
    go_enter Tryz.func65, Tryz.ntmps65
    go_wp2_with fail
    go_ret
    exact ⟨by rw [HV.out]; rfl, rfl⟩
end Go.Proofs.YtdgbplppabalgaaGreatDoor

namespace Go.Proofs.YtdgbplppabalgaaGreatDoor
open Go.RowKit

theorem zS_pos' {z : Int} (h : ¬ z < 0) : zS z = str z.natAbs := zS_pos h
theorem zS_of_nat (n : Nat) : zS (n : Int) = str n := by rw [zS_pos (by omega)]; rfl
theorem zS_of_neg (n : Nat) (h : n ≠ 0) : zS (-(n : Int)) = ⟨#[45]⟩ ++ str n := by
  rw [zS_neg (by omega), show (-(n : Int)).natAbs = n by omega]
set_option maxHeartbeats 800000 in
theorem signed_any (neg : Bool) (n : Nat) (w : World) (hz : (str n).size ≤ 1000000) :
    Calls Tryz.prog 116 #[.bool neg, .string (str n)] w fun e w' => e = .returned (.string (zS (if neg = true then -(n : Int) else (n : Int)))) ∧ w = w' := by
  have hn := zF (n : Int) (by rw [show ((n : Int)).natAbs = n by omega]; exact hz)
  rw [zS_of_nat] at hn
  obtain ⟨h0, h1, h2, h3, h4⟩ := hn
  cases neg with
  | false =>
    rw [if_neg (by decide), zS_of_nat]
    obtain ⟨s, hs⟩ : ∃ s, s = str n := ⟨_, rfl⟩
    rw [← hs]
    clear h1 h2 h3 h4 hz hs
    go_enter Tryz.func116, Tryz.ntmps116
    go_wp2_with fail
    go_ret
    exact ⟨rfl, rfl⟩
  | true =>
    rw [if_pos rfl]
    by_cases h : n = 0
    · subst h
      have HV := Lib.hid (show zS (-((0 : Nat) : Int)) = str 0 from zS_of_nat 0)
      rw [decide_eq_true (by rfl)] at h3
      obtain ⟨Z, hZ⟩ : ∃ Z, Z = zS (-((0 : Nat) : Int)) := ⟨_, rfl⟩
      rw [← hZ] at HV ⊢
      obtain ⟨s, hs⟩ : ∃ s, s = str 0 := ⟨_, rfl⟩
      rw [← hs] at h0 h1 h3 h4 hz HV ⊢
      clear h2 hs hZ
      go_enter Tryz.func116, Tryz.ntmps116
      go_wp2_with fail
      go_ret
      exact ⟨by rw [HV.out]; rfl, rfl⟩
    · rw [decide_eq_false (by omega)] at h3
      have HV := Lib.hid (zS_of_neg n h)
      obtain ⟨Z, hZ⟩ : ∃ Z, Z = zS (-(n : Int)) := ⟨_, rfl⟩
      rw [← hZ] at HV ⊢
      obtain ⟨s, hs⟩ : ∃ s, s = str n := ⟨_, rfl⟩
      rw [← hs] at h0 h1 h3 h4 hz HV ⊢
      clear h2 hs hZ h
      go_enter Tryz.func116, Tryz.ntmps116
      go_wp2_with fail
      go_ret
      exact ⟨by rw [HV.out]; rfl, rfl⟩
set_option maxHeartbeats 400000 in
theorem abs_any (z : Int) (w : World) (hz : (str z.natAbs).size ≤ 1000000) :
    Calls Tryz.prog 98 #[.string (zS z)] w fun e w' => e = .returned (.string (str z.natAbs)) ∧ Below w.heap.size w w' := by
  have HS := Lib.hid (split_any z w hz)
  obtain ⟨s, hs⟩ : ∃ s, s = zS z := ⟨_, rfl⟩
  rw [← hs] at HS ⊢
  clear hs hz
  go_enter Tryz.func98, Tryz.ntmps98
  go_wp2_with fail
  refine HS.out.mono ?_
  rintro e w' ⟨rfl, hb⟩
  have HB := Lib.hid hb
  clear hb
  go_wp2_with fail
  go_ret
  exact ⟨rfl, HB.out⟩
set_option maxHeartbeats 400000 in
theorem neg_any (z : Int) (w : World) (hz : (str z.natAbs).size ≤ 1000000) :
    Calls Tryz.prog 70 #[.string (zS z)] w fun e w' => e = .returned (.string (zS (-z))) ∧ Below w.heap.size w w' := by
  have HS := Lib.hid (split_any z w hz)
  have HG := Lib.hid (fun wx => signed_any (!decide (z < 0)) z.natAbs wx hz)
  have HV := Lib.hid (show (if (!decide (z < 0)) = true then -(z.natAbs : Int) else (z.natAbs : Int)) = -z by
    by_cases h : z < 0
    · rw [decide_eq_true h]; simp; omega
    · rw [decide_eq_false h]; simp; omega)
  rw [HV.out] at HG
  obtain ⟨s, hs⟩ : ∃ s, s = zS z := ⟨_, rfl⟩
  rw [← hs] at HS ⊢
  obtain ⟨b, hb⟩ : ∃ b, b = decide (z < 0) := ⟨_, rfl⟩
  rw [← hb] at HS HG
  clear hs hz HV hb
  cases b
  all_goals
    go_enter Tryz.func70, Tryz.ntmps70
    go_wp2_with fail
    refine HS.out.mono ?_
    rintro e w' ⟨rfl, hb⟩
    have HB := Lib.hid hb
    clear hb
    go_wp2_with fail
    refine (HG.out _).mono ?_
    rintro e w2 ⟨rfl, rfl⟩
    go_wp2_with fail
    go_ret
    exact ⟨rfl, HB.out⟩

end Go.Proofs.YtdgbplppabalgaaGreatDoor
