/-
  Texts of one seat, joined: ZBzM ZCan.
-/
import Derived.Test.YtgkfdgdlmpggpaaGreatDoorJ15
namespace Go.Proofs.YtgkfdgdlmpggpaaGreatDoor
open Go.RowKit

theorem abs_sub_mul {f x : Int} (q : Nat) (h : f * x ≤ 0) : (f - (q : Int) * x).natAbs = f.natAbs + q * x.natAbs := by
  have hq : (0 : Int) ≤ (q : Int) := by omega
  rcases (by omega : x = 0 ∨ 0 < x ∨ x < 0) with hx | hx | hx
  · subst hx; simp
  · have hf : f ≤ 0 := by
      apply Classical.byContradiction; intro hn
      have := Int.mul_pos (show 0 < f by omega) hx; omega
    have h1 : 0 ≤ (q : Int) * x := Int.mul_nonneg hq (by omega)
    have h2 : ((q * x.natAbs : Nat) : Int) = (q : Int) * x := by push_cast; rw [show ((x.natAbs : Int)) = x by omega]
    omega
  · have hf : 0 ≤ f := by
      apply Classical.byContradiction; intro hn
      have := Int.mul_pos_of_neg_of_neg (show f < 0 by omega) hx; omega
    have h1 : (q : Int) * x ≤ 0 := Int.mul_nonpos_of_nonneg_of_nonpos hq (by omega)
    have h2 : ((q * x.natAbs : Nat) : Int) = -((q : Int) * x) := by push_cast; rw [show ((x.natAbs : Int)) = -x by omega, Int.mul_neg]
    omega
/-- what holds at the head of Euclid's loop -/
structure BzI (m n : Int) (A B : Nat) (f x : Int) : Prop where
  apos : 0 < A
  gcd : Nat.gcd A B = Nat.gcd m.natAbs n.natAbs
  cf : m ∣ f * n - A
  cx : m ∣ x * n - B
  mag : f.natAbs * B + x.natAbs * A = m.natAbs
  sign : f * x ≤ 0
  fb : f.natAbs ≤ m.natAbs
theorem BzI.start {m n : Nat} (h : 0 < m) : BzI m n m n 0 1 :=
  ⟨h, rfl, ⟨-1, by omega⟩, ⟨0, by omega⟩, by simp, by simp, by simp⟩
theorem BzI.ab {m n : Int} {A B : Nat} {f x : Int} (h : BzI m n A B f x) : x.natAbs ≤ m.natAbs := by
  have h1 := h.mag
  have h2 : x.natAbs * 1 ≤ x.natAbs * A := Nat.mul_le_mul_left _ h.apos
  omega
theorem BzI.step {m n : Int} {A B : Nat} {f x : Int} (h : BzI m n A B f x) (hB : 0 < B) : BzI m n B (A % B) x (f - ((A / B : Nat) : Int) * x) := by
  obtain ⟨h1, h2, ⟨k, h3⟩, ⟨l, h4⟩, h5, h6, h7⟩ := h
  have hq : A = B * (A / B) + A % B := (Nat.div_add_mod A B).symm
  obtain ⟨q, hq'⟩ : ∃ q, q = A / B := ⟨_, rfl⟩
  obtain ⟨r, hr'⟩ : ∃ r, r = A % B := ⟨_, rfl⟩
  have hm := abs_sub_mul q h6
  have hg : Nat.gcd B (A % B) = Nat.gcd A B := by rw [Nat.gcd_comm B (A % B), ← Nat.gcd_rec B A, Nat.gcd_comm]
  rw [← hq', ← hr'] at hq
  rw [← hr'] at hg
  rw [← hq', ← hr']
  refine ⟨hB, hg.trans h2, ⟨l, h4⟩, ⟨k - (q : Int) * l, ?_⟩, ?_, ?_, ?_⟩
  · have e1 : (f - (q : Int) * x) * n - (r : Int) = (f * n - (A : Int)) - (q : Int) * (x * n - (B : Int)) := by
      have hA : (A : Int) = (B : Int) * (q : Int) + (r : Int) := by rw [hq]; push_cast; rfl
      rw [Int.sub_mul, Int.mul_sub, Int.mul_assoc, hA, Int.mul_comm (B : Int) (q : Int)]; omega
    rw [e1, h3, h4, Int.mul_sub, Int.mul_left_comm]
  · rw [hm, Nat.add_mul]
    have e2 : x.natAbs * A = x.natAbs * (B * q) + x.natAbs * r := by rw [hq, Nat.mul_add]
    have e3 : q * x.natAbs * B = x.natAbs * (B * q) := by rw [Nat.mul_comm q, Nat.mul_assoc, Nat.mul_comm q B]
    omega
  · rw [Int.mul_sub]
    have e4 : x * ((q : Int) * x) = (q : Int) * (x * x) := by rw [Int.mul_left_comm]
    have e5 : 0 ≤ (q : Int) * (x * x) := Int.mul_nonneg (by omega) (by
      rcases (by omega : 0 ≤ x ∨ x ≤ 0) with hx | hx
      · exact Int.mul_nonneg hx hx
      · exact Int.mul_nonneg_of_nonpos_of_nonpos hx hx)
    rw [e4, Int.mul_comm x f]; omega
  · have h2 : x.natAbs * 1 ≤ x.natAbs * A := Nat.mul_le_mul_left _ h1
    omega
/-- the least number that makes the number times it the divisor, modulo m -/
def IsX (m n x : Int) : Prop := 0 ≤ x ∧ x < ((m.natAbs / Nat.gcd m.natAbs n.natAbs : Nat) : Int) ∧ m ∣ x * n - ((Nat.gcd m.natAbs n.natAbs : Nat) : Int)
theorem BzI.done {m n : Int} {A : Nat} {f x : Int} (h : BzI m n A 0 f x) : A = Nat.gcd m.natAbs n.natAbs ∧ 0 < m.natAbs / A ∧ IsX m n (f.fmod ((m.natAbs / A : Nat) : Int)) := by
  have hA : A = Nat.gcd m.natAbs n.natAbs := by rw [← h.gcd, Nat.gcd_zero_right]
  have hmg := h.mag
  have hx : m.natAbs / A = x.natAbs := by
    rw [← hmg, Nat.mul_zero, Nat.zero_add]; exact Nat.mul_div_cancel _ h.apos
  have hmp : 0 < m.natAbs := by
    rcases Nat.eq_zero_or_pos m.natAbs with hz | hz
    · have hfb := h.fb
      exfalso
      have h3 := h.cx
      have h4 := h.cf
      have hm0 : m = 0 := by omega
      have hx0 : x.natAbs * A = 0 := by omega
      have hf0 : f = 0 := by omega
      rw [hm0] at h4
      have h5 := Int.zero_dvd.1 h4
      rw [hf0] at h5
      have := h.apos
      omega
    · exact hz
  have hgd : A ∣ m.natAbs := by rw [hA]; exact Nat.gcd_dvd_left _ _
  have hnd : A ∣ n.natAbs := by rw [hA]; exact Nat.gcd_dvd_right _ _
  have hP : 0 < m.natAbs / A := Nat.div_pos (Nat.le_of_dvd hmp hgd) h.apos
  refine ⟨hA, hP, ?_⟩
  obtain ⟨P, hPe⟩ : ∃ P, P = m.natAbs / A := ⟨_, rfl⟩
  have hm : m.natAbs = A * P := by rw [hPe]; exact (Nat.mul_div_cancel' hgd).symm
  unfold IsX
  rw [← hA, ← hPe]
  rw [← hPe] at hP
  have hr := fl_range f (y := (P : Int)) (by omega)
  refine ⟨by omega, by omega, ?_⟩
  have hfm := Int.fmod_def f (P : Int)
  rw [hfm, Int.sub_mul]
  have e1 : f * n - (P : Int) * f.fdiv (P : Int) * n - (A : Int) = (f * n - (A : Int)) - (P : Int) * f.fdiv (P : Int) * n := by omega
  rw [e1]
  refine Int.dvd_sub h.cf ?_
  obtain ⟨t, ht⟩ := hnd
  have hn2 : (A : Int) ∣ n := Int.natAbs_dvd_natAbs.1 (by rw [Int.natAbs_natCast]; exact ⟨t, ht⟩)
  obtain ⟨u, hu⟩ := hn2
  have hm2 : m ∣ ((A * P : Nat) : Int) := Int.natAbs_dvd_natAbs.1 (by rw [Int.natAbs_natCast, hm]; exact Nat.dvd_refl _)
  obtain ⟨v, hv⟩ := hm2
  refine ⟨v * (f.fdiv (P : Int) * u), ?_⟩
  rw [← Int.mul_assoc m v, ← hv, hu]
  push_cast
  rw [Int.mul_assoc, Int.mul_left_comm _ (A : Int) u, ← Int.mul_assoc (P : Int) (A : Int), Int.mul_comm (P : Int) (A : Int)]
theorem IsX.unique {m n x y : Int} (hm : m ≠ 0) (hx : IsX m n x) (hy : IsX m n y) : x = y := by
  obtain ⟨a1, a2, a3⟩ := hx
  obtain ⟨b1, b2, b3⟩ := hy
  have h := Int.dvd_sub a3 b3
  rw [show x * n - ((Nat.gcd m.natAbs n.natAbs : Nat) : Int) - (y * n - ((Nat.gcd m.natAbs n.natAbs : Nat) : Int)) = (x - y) * n by rw [Int.sub_mul]; omega] at h
  have h2 := Int.natAbs_dvd_natAbs.2 h
  rw [Int.natAbs_mul] at h2
  have hg : 0 < Nat.gcd m.natAbs n.natAbs := Nat.gcd_pos_of_pos_left _ (by omega)
  have h3 : m.natAbs / Nat.gcd m.natAbs n.natAbs ∣ (x - y).natAbs * (n.natAbs / Nat.gcd m.natAbs n.natAbs) := by
    have e : (x - y).natAbs * n.natAbs = ((x - y).natAbs * (n.natAbs / Nat.gcd m.natAbs n.natAbs)) * Nat.gcd m.natAbs n.natAbs := by
      rw [Nat.mul_assoc, Nat.div_mul_cancel (Nat.gcd_dvd_right _ _)]
    rw [e] at h2
    exact Nat.dvd_of_mul_dvd_mul_right hg (by rw [Nat.div_mul_cancel (Nat.gcd_dvd_left _ _)]; exact h2)
  have hc : Nat.Coprime (m.natAbs / Nat.gcd m.natAbs n.natAbs) (n.natAbs / Nat.gcd m.natAbs n.natAbs) := Nat.coprime_div_gcd_div_gcd hg
  have h4 := hc.dvd_of_dvd_mul_right h3
  have h5 : (x - y).natAbs = 0 := Nat.eq_zero_of_dvd_of_lt h4 (by omega)
  omega
/-- Bezout's numbers -/
structure IsBz (a b x y : Int) : Prop where
  none : b = 0 → x = sgnI a ∧ y = 0
  some : b ≠ 0 → IsX b a x
  sum : a * x + b * y = ((Nat.gcd a.natAbs b.natAbs : Nat) : Int)
theorem IsBz.unique {a b x y x' y' : Int} (h : IsBz a b x y) (h' : IsBz a b x' y') : x = x' ∧ y = y' := by
  by_cases hb : b = 0
  · obtain ⟨h1, h2⟩ := h.none hb
    obtain ⟨h3, h4⟩ := h'.none hb
    omega
  · have h1 := IsX.unique hb (h.some hb) (h'.some hb)
    have h2 := h.sum
    have h3 := h'.sum
    rw [← h1] at h3
    have h4 : b * y = b * y' := by omega
    exact ⟨h1, Int.eq_of_mul_eq_mul_left hb h4⟩
end Go.Proofs.YtgkfdgdlmpggpaaGreatDoor

namespace Go.Proofs.YtgkfdgdlmpggpaaGreatDoor
open Go.RowKit

def negB (s : ByteArray) : Bool := s.data.toList.head? == some 45
def magB (s : ByteArray) : ByteArray := if negB s = true then s.extract 1 s.size else s
theorem negB_at {s : ByteArray} (h : 0 < s.size) : negB s = (((s[0]'h).toNat : Int) == 45) := by
  have e := at_list s 0 h
  have hl : s.data.toList ≠ [] := by intro q; have := len_list s; rw [q] at this; simp at this; omega
  have e2 : s.data.toList.head? = some (s[0]'h) := by
    rw [List.head?_eq_getElem?, List.getElem?_eq_getElem (by rw [len_list]; exact h), e]
  unfold negB
  rw [e2, Bool.eq_iff_iff, beq_iff_eq, beq_iff_eq]
  constructor
  · intro q; have := Option.some.inj q; rw [this]; rfl
  · intro q
    have : s[0] = 45 := UInt8.toNat_inj.1 (by show _ = 45; omega)
    rw [this]
theorem negB_nil {s : ByteArray} (h : s.size = 0) : negB s = false := by
  have := len_list s
  rw [h] at this
  unfold negB
  rw [List.length_eq_zero_iff.1 this]; rfl
theorem magB_len {s : ByteArray} : (magB s).size ≤ s.size := by
  unfold magB
  split
  · rw [ByteArray.size_extract]; omega
  · exact Nat.le_refl _
theorem negB_zS (z : Int) : negB (zS z) = decide (z < 0) := by
  by_cases h : z < 0
  · rw [zS_neg h, negB_at (negS _).pos, (negS _).hd, decide_eq_true h]; rfl
  · rw [zS_pos h, negB_at (str_pos _), decide_eq_false h, beq_eq_false_iff_ne]; exact str_hd _
theorem magB_zS (z : Int) : magB (zS z) = str z.natAbs := by
  unfold magB
  rw [negB_zS]
  by_cases h : z < 0
  · rw [decide_eq_true h, if_pos rfl, zS_neg h, (negS _).tl]
  · rw [decide_eq_false h, if_neg (by decide), zS_pos h]
set_option maxHeartbeats 800000 in
theorem splitG_any (s : ByteArray) (w : World) (hs : s.size ≤ 1000001) :
    Calls Tryz.prog 115 #[.string s] w fun e w' => e = .returned (.tuple #[.bool (negB s), .string (magB s)]) ∧ Below w.heap.size w w' := by
  by_cases h0 : s.size = 0
  · have hn := negB_nil h0
    have HM := Lib.hid (show magB s = s by unfold magB; rw [hn]; rfl)
    have HN := Lib.hid hn
    have hp : ¬ (0 : Int) < s.size := by omega
    clear hn h0
    go_enter Tryz.func115, Tryz.ntmps115
    go_wp2_with fail
    go_ret2
    exact ⟨by rw [HM.out, HN.out]; rfl, Below.refl _ _⟩
  · have h0' : 0 < s.size := by omega
    have hn := negB_at h0'
    have hp : (0 : Int) < s.size := by omega
    have h1' : 1 ≤ s.size := h0'
    cases hb : (((s[0]'h0').toNat : Int) == 45) with
    | true =>
      rw [hb] at hn
      have HM := Lib.hid (show magB s = s.extract 1 s.size by unfold magB; rw [hn]; rfl)
      have HN := Lib.hid hn
      clear hn h0
      go_enter Tryz.func115, Tryz.ntmps115
      go_wp2_with fail
      go_quiet (fail)
      go_wp2_with fail
      go_ret2
      exact ⟨by rw [HM.out, HN.out]; rfl, below_drewN (Below.refl _ _) _⟩
    | false =>
      rw [hb] at hn
      have HM := Lib.hid (show magB s = s by unfold magB; rw [hn]; rfl)
      have HN := Lib.hid hn
      clear hn h0
      go_enter Tryz.func115, Tryz.ntmps115
      go_wp2_with fail
      go_ret2
      exact ⟨by rw [HM.out, HN.out]; rfl, Below.refl _ _⟩
def zCan (s : ByteArray) : Bool := canonL (magB s).data.toList && !(negB s && ((magB s).toList == [48]))
theorem zCan_yes {s : ByteArray} (h : zCan s = true) : ∃ z, s = zS z := by
  unfold zCan at h
  rw [Bool.and_eq_true, Bool.not_eq_true', Bool.and_eq_false_iff] at h
  obtain ⟨h1, h2⟩ := h
  have e := str_of h1
  cases hn : negB s with
  | false =>
    have hm : magB s = s := by unfold magB; rw [hn]; rfl
    rw [hm] at e
    exact ⟨((val s.data.toList : Nat) : Int), by rw [zS_of_nat]; exact e⟩
  | true =>
    have hm : magB s = s.extract 1 s.size := by unfold magB; rw [hn]; rfl
    have h0 : 0 < s.size := by
      rcases Nat.eq_zero_or_pos s.size with hz | hz
      · rw [negB_nil hz] at hn; cases hn
      · exact hz
    rcases h2 with h2 | h2
    · rw [hn] at h2; cases h2
    · obtain ⟨n, hnn⟩ : ∃ n, n = val (magB s).data.toList := ⟨_, rfl⟩
      rw [← hnn] at e
      have hn0 : n ≠ 0 := by
        intro hz
        rw [e, hz, str_tl, dd0] at h2; simp at h2
      refine ⟨-(n : Int), ?_⟩
      rw [zS_of_neg n hn0, ← e, hm]
      have hat := negB_at h0
      rw [hn] at hat
      have h45 : (s[0]'h0) = 45 := by
        have := beq_iff_eq.1 hat.symm
        exact UInt8.toNat_inj.1 (by show _ = 45; omega)
      apply ByteArray.ext
      rw [ByteArray.data_append, ByteArray.data_extract]
      apply Array.toList_inj.1
      rw [Array.toList_append, Array.toList_extract]
      have hl := len_list s
      have hg := at_list s 0 h0
      rw [h45] at hg
      cases hq : s.data.toList with
      | nil => rw [hq] at hl; simp at hl; omega
      | cons c l =>
        rw [hq] at hl
        have hc : c = 45 := by rw [← hg]; simp [hq]
        rw [hc]
        simp [List.extract]
        rw [List.take_of_length_le]; simp at hl; omega
theorem zCan_zS (z : Int) : zCan (zS z) = true := by
  unfold zCan
  rw [negB_zS, magB_zS, canon_str]
  by_cases h : z < 0
  · rw [decide_eq_true h, tl_ne (str_not48 (by omega))]; rfl
  · rw [decide_eq_false h]; rfl
set_option maxHeartbeats 800000 in
theorem canonW_any (s : ByteArray) (w : World) (hs : s.size ≤ 1000001) :
    Calls Tryz.prog 109 #[.string s] w fun e w' => e = .returned (.bool (zCan s)) ∧ Below w.heap.size w w' := by
  have HS := Lib.hid (fun wx => splitG_any s wx hs)
  have hl := magB_len (s := s)
  have HC := Lib.hid (fun wx => canonical_any (magB s) wx (by omega))
  have HV := Lib.hid (show zCan s = (canonL (magB s).data.toList && !(negB s && ((magB s).toList == [48]))) from rfl)
  obtain ⟨c, hc⟩ : ∃ c, c = canonL (magB s).data.toList := ⟨_, rfl⟩
  obtain ⟨n, hn⟩ : ∃ n, n = negB s := ⟨_, rfl⟩
  obtain ⟨m, hm⟩ : ∃ m, m = magB s := ⟨_, rfl⟩
  obtain ⟨V, hV⟩ : ∃ V, V = zCan s := ⟨_, rfl⟩
  rw [← hc] at HC HV
  rw [← hm] at HS HC HV
  rw [← hn] at HS HV
  rw [← hV] at HV ⊢
  clear hc hn hm hV hl hs
  cases c
  · go_enter Tryz.func109, Tryz.ntmps109
    go_wp2_with fail
    refine (HS.out _).mono ?_
    rintro e w1 ⟨rfl, h1⟩
    have B1 := Lib.hid h1
    clear h1
    go_wp2_with fail
    refine (HC.out _).mono ?_
    rintro e w2 ⟨rfl, rfl⟩
    go_wp2_with fail
    go_ret
    exact ⟨by rw [HV.out]; rfl, B1.out⟩
  · cases n
    · go_enter Tryz.func109, Tryz.ntmps109
      go_wp2_with fail
      refine (HS.out _).mono ?_
      rintro e w1 ⟨rfl, h1⟩
      have B1 := Lib.hid h1
      clear h1
      go_wp2_with fail
      refine (HC.out _).mono ?_
      rintro e w2 ⟨rfl, rfl⟩
      go_wp2_with fail
      go_ret
      exact ⟨by rw [HV.out]; rfl, B1.out⟩
    · cases hz : (m.toList == [48])
      · rw [hz] at HV
        go_enter Tryz.func109, Tryz.ntmps109
        go_wp2_with fail
        refine (HS.out _).mono ?_
        rintro e w1 ⟨rfl, h1⟩
        have B1 := Lib.hid h1
        clear h1
        go_wp2_with fail
        refine (HC.out _).mono ?_
        rintro e w2 ⟨rfl, rfl⟩
        go_wp2_with fail
        go_ret
        exact ⟨by rw [HV.out]; rfl, B1.out⟩
      · rw [hz] at HV
        go_enter Tryz.func109, Tryz.ntmps109
        go_wp2_with fail
        refine (HS.out _).mono ?_
        rintro e w1 ⟨rfl, h1⟩
        have B1 := Lib.hid h1
        clear h1
        go_wp2_with fail
        refine (HC.out _).mono ?_
        rintro e w2 ⟨rfl, rfl⟩
        go_wp2_with fail
        go_ret
        exact ⟨by rw [HV.out]; rfl, B1.out⟩
set_option maxHeartbeats 400000 in
theorem absG_any (s : ByteArray) (w : World) (hs : s.size ≤ 1000001) :
    Calls Tryz.prog 98 #[.string s] w fun e w' => e = .returned (.string (magB s)) ∧ Below w.heap.size w w' := by
  have HX := Lib.hid (fun wx => splitG_any s wx hs)
  obtain ⟨m, hm⟩ : ∃ m, m = magB s := ⟨_, rfl⟩
  obtain ⟨n, hn⟩ : ∃ n, n = negB s := ⟨_, rfl⟩
  rw [← hm] at HX ⊢
  rw [← hn] at HX
  clear hs hm hn
  go_enter Tryz.func98, Tryz.ntmps98
  go_wp2_with fail
  refine (HX.out _).mono ?_
  rintro e w1 ⟨rfl, h1⟩
  have B1 := Lib.hid h1
  clear h1
  go_wp2_with fail
  go_ret
  exact ⟨rfl, B1.out⟩
set_option maxHeartbeats 400000 in
theorem digitsN_any (s : ByteArray) (w : World) :
    Calls Tryz.prog 110 #[.string s] w fun e w' => e = .returned (.int .i64 s.size) ∧ w = w' := by
  go_enter Tryz.func110, Tryz.ntmps110
  go_wp2
  go_ret
  exact ⟨rfl, rfl⟩
def chkZ (s : ByteArray) : Int := if zCan s = true ∧ (magB s).size ≤ 400 then 0 else 2
set_option maxHeartbeats 800000 in
theorem checkW_any (s : ByteArray) (w : World) (hs : s.size ≤ 1000001) :
    Calls Tryz.prog 64 #[.string s] w fun e w' => e = .returned (.int .i64 (chkZ s)) ∧ Below w.heap.size w w' := by
  have HC := Lib.hid (fun wx => canonW_any s wx hs)
  have HA := Lib.hid (fun wx => absG_any s wx hs)
  have hl := magB_len (s := s)
  have HD := Lib.hid (fun wx => digitsN_any (magB s) wx)
  have hV : chkZ s = if zCan s = true ∧ (magB s).size ≤ 400 then 0 else 2 := rfl
  obtain ⟨c, hc⟩ : ∃ c, c = zCan s := ⟨_, rfl⟩
  obtain ⟨m, hm⟩ : ∃ m, m = magB s := ⟨_, rfl⟩
  obtain ⟨V, hVV⟩ : ∃ V, V = chkZ s := ⟨_, rfl⟩
  rw [← hc] at HC hV
  rw [← hm] at HA HD hV hl
  rw [← hVV] at hV ⊢
  clear hc hm hVV
  cases c
  · have HV := Lib.hid (show V = 2 by rw [hV]; rfl)
    clear hV hl hs HA HD
    go_enter Tryz.func64, Tryz.ntmps64
    go_wp2_with fail
    refine (HC.out _).mono ?_
    rintro e w1 ⟨rfl, h1⟩
    have B1 := Lib.hid h1
    clear h1
    go_wp2_with fail
    go_ret
    exact ⟨by rw [HV.out]; rfl, B1.out⟩
  · by_cases h4 : m.size ≤ 400
    · have HV := Lib.hid (show V = 0 by rw [hV, if_pos ⟨rfl, h4⟩])
      have hd : decide ((400 : Int) < m.size) = false := decide_eq_false (by omega)
      clear hV hl hs h4
      go_enter Tryz.func64, Tryz.ntmps64
      go_wp2_with fail
      refine (HC.out _).mono ?_
      rintro e w1 ⟨rfl, h1⟩
      have B1 := Lib.hid h1
      clear h1
      go_wp2_with fail
      refine (HA.out _).mono ?_
      rintro e w2 ⟨rfl, h2⟩
      have B2 := Lib.hid (B1.out.trans (h2.mono B1.out.size))
      clear h2
      go_wp2_with fail
      refine (HD.out _).mono ?_
      rintro e w3 ⟨rfl, rfl⟩
      go_wp2_with fail
      go_ret
      exact ⟨by rw [HV.out]; rfl, B2.out⟩
    · have HV := Lib.hid (show V = 2 by rw [hV, if_neg (fun q => h4 q.2)])
      have hd : decide ((400 : Int) < m.size) = true := decide_eq_true (by omega)
      clear hV hl hs h4
      go_enter Tryz.func64, Tryz.ntmps64
      go_wp2_with fail
      refine (HC.out _).mono ?_
      rintro e w1 ⟨rfl, h1⟩
      have B1 := Lib.hid h1
      clear h1
      go_wp2_with fail
      refine (HA.out _).mono ?_
      rintro e w2 ⟨rfl, h2⟩
      have B2 := Lib.hid (B1.out.trans (h2.mono B1.out.size))
      clear h2
      go_wp2_with fail
      refine (HD.out _).mono ?_
      rintro e w3 ⟨rfl, rfl⟩
      go_wp2_with fail
      go_ret
      exact ⟨by rw [HV.out]; rfl, B2.out⟩
end Go.Proofs.YtgkfdgdlmpggpaaGreatDoor
