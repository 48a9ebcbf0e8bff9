/-
  Texts of one seat, joined: Comp ZLeaf ZSign ZNeg ZComp.
-/
import Derived.Test.YtgkfdgdlmpggpaaGreatDoorJ4
import Derived.RegionTactic
namespace Go.Proofs.YtgkfdgdlmpggpaaGreatDoor
open Go.RowKit

def cmpN (a b : Nat) : Int := if a < b then -1 else if b < a then 1 else 0
theorem cmp_lt {a b : Nat} (h : a < b) : cmpN a b = -1 := by unfold cmpN; rw [if_pos h]
theorem cmp_gt {a b : Nat} (h : b < a) : cmpN a b = 1 := by unfold cmpN; rw [if_neg (by omega), if_pos h]
theorem cmp_eq (a : Nat) : cmpN a a = 0 := by unfold cmpN; rw [if_neg (by omega), if_neg (by omega)]
theorem val_cons_lt {c d : UInt8} {l m : List UInt8} (hl : l.length = m.length) (ha : l.all isD = true) (hc : isD c = true) (hd : isD d = true) (h : c < d) : val (c :: l) < val (d :: m) := by
  have h1 := val_lt l ha
  have h2 := isD_lt hc
  have h3 := isD_lt hd
  have h4 : c.toNat < d.toNat := h
  rw [val_cons, val_cons, ← hl]
  have : (c.toNat - 48 + 1) * 10 ^ l.length ≤ (d.toNat - 48) * 10 ^ l.length := Nat.mul_le_mul_right _ (by omega)
  rw [Nat.add_mul] at this; omega
theorem less_val : ∀ (l m : List UInt8), l.length = m.length → l.all isD = true → m.all isD = true →
    Op.bytesLess l m = decide (val l < val m) ∧ Lib.compareBytes l m = cmpN (val l) (val m) := by
  intro l
  induction l with
  | nil =>
    intro m hl _ _
    obtain rfl : m = [] := List.eq_nil_of_length_eq_zero (by simpa using hl.symm)
    exact ⟨by simp [Op.bytesLess], by simp [Lib.compareBytes, cmpN]⟩
  | cons c l ih =>
    intro m hl ha hb
    cases m with
    | nil => simp at hl
    | cons d m =>
      have hl' : l.length = m.length := by simpa using hl
      simp only [List.all_cons, Bool.and_eq_true] at ha hb
      obtain ⟨h1, h2⟩ := ih m hl' ha.2 hb.2
      rcases Nat.lt_trichotomy c.toNat d.toNat with h | h | h
      · have hcd : c < d := h
        have hv := val_cons_lt hl' ha.2 ha.1 hb.1 hcd
        rw [cmp_lt hv]
        exact ⟨by simp [Op.bytesLess, hcd, hv], by simp [Lib.compareBytes, hcd]⟩
      · obtain rfl : c = d := UInt8.toNat_inj.1 h
        have hv : val (c :: l) < val (c :: m) ↔ val l < val m := by rw [val_cons, val_cons, hl']; omega
        have hv' : val (c :: m) < val (c :: l) ↔ val m < val l := by rw [val_cons, val_cons, hl']; omega
        have hcc : ¬ c < c := UInt8.lt_irrefl c
        constructor
        · simp only [Op.bytesLess, h1, hv]; simp
        · simp only [Lib.compareBytes, if_neg hcc, h2, cmpN, hv, hv']
      · have hcd : d < c := h
        have hn : ¬ c < d := by intro h'; have h3 : c.toNat < d.toNat := h'; omega
        have hne : (c == d) = false := by rw [beq_eq_false_iff_ne]; intro e; subst e; omega
        have hv := val_cons_lt hl'.symm hb.2 hb.1 ha.1 hcd
        rw [cmp_gt hv]
        exact ⟨by simp [Op.bytesLess, hn, hne]; omega, by simp [Lib.compareBytes, hn, hcd]⟩
theorem str_less {a b : Nat} (h : Lib.nDigits a = Lib.nDigits b) : Op.bytesLess (str a).toList (str b).toList = decide (a < b) ∧ Lib.compareBytes (str a).data.toList (str b).data.toList = cmpN a b := by
  rw [tl, tl, str_list, str_list]
  have := less_val (Lib.decDigits a) (Lib.decDigits b) (by rw [Lib.decDigits_length, Lib.decDigits_length, h]) (all_dd a) (all_dd b)
  rw [val_dd, val_dd] at this; exact this
theorem str_beq (a b : Nat) : ((str a).toList == (str b).toList) = decide (a = b) := by
  rw [Bool.eq_iff_iff, beq_iff_eq, decide_eq_true_iff]
  constructor
  · intro h
    have h2 := congrArg val h
    rw [tl, tl, str_list, str_list, val_dd, val_dd] at h2; exact h2
  · intro h; rw [h]
theorem size_lt {a b : Nat} (h : (str a).size < (str b).size) : a < b := by
  apply Nat.lt_of_not_le; intro hle
  have := size_mono hle; omega

set_option maxHeartbeats 800000 in
theorem compare_any (a b : Nat) (w : World) :
    Calls Tryz.prog 137 #[.string (str a), .string (str b)] w fun e w' => e = .returned (.int .i64 (cmpN a b)) ∧ w = w' := by
  by_cases hs : (str a).size = (str b).size
  · have hn : (((str a).size : Int) != ((str b).size : Int)) = false := by simp [hs]
    have hl := (str_less (a := a) (b := b) (by rw [str_size, str_size] at hs; exact hs)).2
    have HC := Lib.hid (fun wx => Tryz.strings_Compare (str a) (str b) wx)
    rw [hl] at HC
    clear hs hl
    go_enter Tryz.func137, Tryz.ntmps137
    go_wp2_with fail
    refine (HC.out _).mono ?_
    rintro e w1 ⟨rfl, rfl⟩
    go_wp2_with fail
    go_ret
    exact ⟨rfl, rfl⟩
  · have hn : (((str a).size : Int) != ((str b).size : Int)) = true := by simp; omega
    have HC := Lib.hid (fun wx => Tryz.cmp_Compare_int ((str a).size : Int) ((str b).size : Int) wx)
    have hc : Lib.compareInt ((str a).size : Int) ((str b).size : Int) = cmpN a b := by
      unfold Lib.compareInt
      rcases Nat.lt_or_gt_of_ne hs with h | h
      · rw [if_pos (by omega), cmp_lt (size_lt h)]
      · rw [if_neg (by omega), if_pos (by omega), cmp_gt (size_lt h)]
    rw [hc] at HC
    clear hs hc
    go_enter Tryz.func137, Tryz.ntmps137
    go_wp2_with fail
    refine (HC.out _).mono ?_
    rintro e w1 ⟨rfl, rfl⟩
    go_wp2_with fail
    go_ret
    exact ⟨rfl, rfl⟩



end Go.Proofs.YtgkfdgdlmpggpaaGreatDoor

namespace Go.Proofs.YtgkfdgdlmpggpaaGreatDoor
open Go.RowKit

/-- the text of an integer -/
def zS (z : Int) : ByteArray := if z < 0 then ⟨#[45]⟩ ++ str z.natAbs else str z.natAbs
theorem zS_neg {z : Int} (h : z < 0) : zS z = ⟨#[45]⟩ ++ str z.natAbs := if_pos h
theorem zS_pos {z : Int} (h : ¬ z < 0) : zS z = str z.natAbs := if_neg h
theorem str_pos (n : Nat) : 0 < (str n).size := by
  rw [str_size]; exact Lib.nDigits_pos n
theorem str_hd (n : Nat) : (((str n)[0]'(str_pos n)).toNat : Int) ≠ 45 := by
  have h := at_list (str n) 0 (str_pos n)
  have hm : (str n)[0]'(str_pos n) ∈ (str n).data.toList := by rw [← h]; exact List.getElem_mem _
  rw [str_list] at hm
  have := List.all_eq_true.1 (all_dd n) _ hm
  have := isD_lt this
  omega
structure NegS (s : ByteArray) (n : Nat) : Prop where
  sz : s.size = (str n).size + 1
  pos : 0 < s.size
  hd : (s[0]'pos) = 45
  tl : s.extract 1 s.size = str n
theorem negS (n : Nat) : NegS (⟨#[45]⟩ ++ str n) n := by
  have hs : (⟨#[45]⟩ ++ str n : ByteArray).size = (str n).size + 1 := by
    rw [ByteArray.size_append]; show 1 + _ = _; omega
  have hd : (⟨#[45]⟩ ++ str n : ByteArray).data.toList = 45 :: (str n).data.toList := by
    rw [ByteArray.data_append]; simp
  refine ⟨hs, by omega, ?_, ?_⟩
  · have h := at_list (⟨#[45]⟩ ++ str n) 0 (by omega)
    rw [← h]; simp
  · apply ByteArray.ext
    rw [ByteArray.data_extract]
    apply Array.toList_inj.1
    rw [Array.toList_extract, hd, hs]
    simp [List.extract]
    exact List.take_of_length_le (by rw [len_list]; exact Nat.le_refl _)
set_option maxHeartbeats 800000 in
theorem split_any (z : Int) (w : World) (hz : (str z.natAbs).size ≤ 1000000) :
    Calls Tryz.prog 115 #[.string (zS z)] w fun e w' => e = .returned (.tuple #[.bool (decide (z < 0)), .string (str z.natAbs)]) ∧ Below w.heap.size w w' := by
  by_cases h : z < 0
  · rw [zS_neg h, decide_eq_true h]
    have hn := negS z.natAbs
    obtain ⟨s, hs⟩ : ∃ s, s = ⟨#[45]⟩ ++ str z.natAbs := ⟨_, rfl⟩
    rw [← hs] at hn ⊢
    obtain ⟨h1, h0, h2, h3⟩ := hn
    have hlim : s.size ≤ 1000001 := by omega
    have hb : (((s[0]'h0).toNat : Int) == 45) = true := by rw [h2]; rfl
    have H3 := Lib.hid h3
    have hp : (0 : Int) < s.size := by omega
    have h1' : 1 ≤ s.size := h0
    clear hs h3 h2 h1
    go_enter Tryz.func115, Tryz.ntmps115
    go_wp2_with fail
    go_quiet (fail)
    go_wp2_with fail
    go_ret2
    exact ⟨by rw [H3.out]; rfl, below_drewN (Below.refl _ _) _⟩
  · rw [zS_pos h, decide_eq_false h]
    have h0 := str_pos z.natAbs
    have hb := str_hd z.natAbs
    obtain ⟨s, hs⟩ : ∃ s, s = str z.natAbs := ⟨_, rfl⟩
    rw [← hs] at hz ⊢
    have h0' : 0 < s.size := by rw [hs]; exact h0
    have hb' : (((s[0]'h0').toNat : Int) == 45) = false := by
      rw [beq_eq_false_iff_ne]; subst hs; exact hb
    have hp : (0 : Int) < s.size := by omega
    clear hb h0 hs
    go_enter Tryz.func115, Tryz.ntmps115
    go_wp2_with fail
    go_ret2
    exact ⟨rfl, Below.refl _ _⟩
end Go.Proofs.YtgkfdgdlmpggpaaGreatDoor

namespace Go.Proofs.YtgkfdgdlmpggpaaGreatDoor
open Go.RowKit

def sgnI (z : Int) : Int := if z = 0 then 0 else if z < 0 then -1 else 1
theorem zS_zero : zS 0 = ⟨#[48]⟩ := by
  show str 0 = _
  exact (str_eq 0 (by decide) (by decide)).symm
theorem tl_ne {s : ByteArray} (h : s.toList ≠ [48]) : (s.toList == [48]) = false := by rw [beq_eq_false_iff_ne]; exact h
theorem str_tl (n : Nat) : (str n).toList = Lib.decDigits n := by rw [tl, str_list]
theorem dd0 : Lib.decDigits 0 = [48] := Lib.decDigits_one (by decide)
theorem str_not48 {n : Nat} (h : n ≠ 0) : (str n).toList ≠ [48] := by
  rw [str_tl]
  intro e
  have : str n = str 0 := by
    apply ByteArray.ext; apply Array.toList_inj.1
    rw [str_list, e, str_list, dd0]
  exact h (str_inj this)
theorem str_not0 (n : Nat) : (str n).toList ≠ [] := by
  rw [str_tl]; exact dd_ne n
theorem neg_tl (n : Nat) : (⟨#[45]⟩ ++ str n : ByteArray).toList = 45 :: Lib.decDigits n := by
  rw [tl, ByteArray.data_append, ← str_list]; simp
/-- what the walks ask of a text -/
structure ZF (s : ByteArray) (z : Int) : Prop where
  pos : 0 < s.size
  lim : s.size ≤ 1000001
  neg : (((s[0]'pos).toNat : Int) == 45) = decide (z < 0)
  zero : (s.toList == [48]) = decide (z = 0)
  nil : (s.toList == []) = false
theorem zF (z : Int) (hz : (str z.natAbs).size ≤ 1000000) : ZF (zS z) z := by
  by_cases h : z < 0
  · have hn := negS z.natAbs
    rw [zS_neg h]
    refine ⟨hn.pos, by have := hn.sz; omega, by rw [hn.hd, decide_eq_true h]; rfl, ?_, ?_⟩
    · rw [neg_tl, decide_eq_false (by omega)]; rfl
    · rw [neg_tl]; rfl
  · rw [zS_pos h]
    refine ⟨str_pos _, by omega, by rw [decide_eq_false h, beq_eq_false_iff_ne]; exact str_hd _, ?_, ?_⟩
    · by_cases h0 : z = 0
      · subst h0; rw [decide_eq_true rfl, str_tl, show Int.natAbs 0 = 0 from rfl, dd0]; rfl
      · rw [decide_eq_false h0]; exact tl_ne (str_not48 (by omega))
    · rw [beq_eq_false_iff_ne]; exact str_not0 _
set_option maxHeartbeats 800000 in
theorem sign_any (z : Int) (w : World) (hz : (str z.natAbs).size ≤ 1000000) :
    Calls Tryz.prog 65 #[.string (zS z)] w fun e w' => e = .returned (.int .i64 (sgnI z)) ∧ w = w' := by
  have hf := zF z hz
  obtain ⟨s, hs⟩ : ∃ s, s = zS z := ⟨_, rfl⟩
  rw [← hs] at hf ⊢
  obtain ⟨h0, h1, h2, h3, h4⟩ := hf
  rcases (by omega : z = 0 ∨ z < 0 ∨ 0 < z) with h | h | h
  · subst h
    rw [decide_eq_true rfl] at h3
    clear hs h2 hz
    go_enter Tryz.func65, Tryz.ntmps65
    go_wp2_with fail
    go_ret
    exact ⟨rfl, rfl⟩
  · have HV := Lib.hid (show sgnI z = -1 by unfold sgnI; rw [if_neg (by omega), if_pos h])
    rw [decide_eq_true h] at h2
    rw [decide_eq_false (by omega)] at h3
    clear hs hz
    go_enter Tryz.func65, Tryz.ntmps65
    go_wp2_with fail
    go_ret
    exact ⟨by rw [HV.out]; rfl, rfl⟩
  · have HV := Lib.hid (show sgnI z = 1 by unfold sgnI; rw [if_neg (by omega), if_neg (by omega)])
    rw [decide_eq_false (by omega)] at h2 h3
    clear hs hz
    go_enter Tryz.func65, Tryz.ntmps65
    go_wp2_with fail
    go_ret
    exact ⟨by rw [HV.out]; rfl, rfl⟩
end Go.Proofs.YtgkfdgdlmpggpaaGreatDoor

namespace Go.Proofs.YtgkfdgdlmpggpaaGreatDoor
open Go.RowKit

theorem zS_pos' {z : Int} (h : ¬ z < 0) : zS z = str z.natAbs := zS_pos h
theorem zS_of_nat (n : Nat) : zS (n : Int) = str n := by rw [zS_pos (by omega)]; rfl
theorem zS_of_neg (n : Nat) (h : n ≠ 0) : zS (-(n : Int)) = ⟨#[45]⟩ ++ str n := by
  rw [zS_neg (by omega), show (-(n : Int)).natAbs = n by omega]
set_option maxHeartbeats 800000 in
theorem signed_any (neg : Bool) (n : Nat) (w : World) (hz : (str n).size ≤ 1000000) :
    Calls Tryz.prog 116 #[.bool neg, .string (str n)] w fun e w' => e = .returned (.string (zS (if neg = true then -(n : Int) else (n : Int)))) ∧ w = w' := by
  have hn := zF (n : Int) (by rw [show ((n : Int)).natAbs = n by omega]; exact hz)
  rw [zS_of_nat] at hn
  obtain ⟨h0, h1, h2, h3, h4⟩ := hn
  cases neg with
  | false =>
    rw [if_neg (by decide), zS_of_nat]
    obtain ⟨s, hs⟩ : ∃ s, s = str n := ⟨_, rfl⟩
    rw [← hs]
    clear h1 h2 h3 h4 hz hs
    go_enter Tryz.func116, Tryz.ntmps116
    go_wp2_with fail
    go_ret
    exact ⟨rfl, rfl⟩
  | true =>
    rw [if_pos rfl]
    by_cases h : n = 0
    · subst h
      have HV := Lib.hid (show zS (-((0 : Nat) : Int)) = str 0 from zS_of_nat 0)
      rw [decide_eq_true (by rfl)] at h3
      obtain ⟨Z, hZ⟩ : ∃ Z, Z = zS (-((0 : Nat) : Int)) := ⟨_, rfl⟩
      rw [← hZ] at HV ⊢
      obtain ⟨s, hs⟩ : ∃ s, s = str 0 := ⟨_, rfl⟩
      rw [← hs] at h0 h1 h3 h4 hz HV ⊢
      clear h2 hs hZ
      go_enter Tryz.func116, Tryz.ntmps116
      go_wp2_with fail
      go_ret
      exact ⟨by rw [HV.out]; rfl, rfl⟩
    · rw [decide_eq_false (by omega)] at h3
      have HV := Lib.hid (zS_of_neg n h)
      obtain ⟨Z, hZ⟩ : ∃ Z, Z = zS (-(n : Int)) := ⟨_, rfl⟩
      rw [← hZ] at HV ⊢
      obtain ⟨s, hs⟩ : ∃ s, s = str n := ⟨_, rfl⟩
      rw [← hs] at h0 h1 h3 h4 hz HV ⊢
      clear h2 hs hZ h
      go_enter Tryz.func116, Tryz.ntmps116
      go_wp2_with fail
      go_ret
      exact ⟨by rw [HV.out]; rfl, rfl⟩
set_option maxHeartbeats 400000 in
theorem abs_any (z : Int) (w : World) (hz : (str z.natAbs).size ≤ 1000000) :
    Calls Tryz.prog 98 #[.string (zS z)] w fun e w' => e = .returned (.string (str z.natAbs)) ∧ Below w.heap.size w w' := by
  have HS := Lib.hid (split_any z w hz)
  obtain ⟨s, hs⟩ : ∃ s, s = zS z := ⟨_, rfl⟩
  rw [← hs] at HS ⊢
  clear hs hz
  go_enter Tryz.func98, Tryz.ntmps98
  go_wp2_with fail
  refine HS.out.mono ?_
  rintro e w' ⟨rfl, hb⟩
  have HB := Lib.hid hb
  clear hb
  go_wp2_with fail
  go_ret
  exact ⟨rfl, HB.out⟩
set_option maxHeartbeats 400000 in
theorem neg_any (z : Int) (w : World) (hz : (str z.natAbs).size ≤ 1000000) :
    Calls Tryz.prog 70 #[.string (zS z)] w fun e w' => e = .returned (.string (zS (-z))) ∧ Below w.heap.size w w' := by
  have HS := Lib.hid (split_any z w hz)
  have HG := Lib.hid (fun wx => signed_any (!decide (z < 0)) z.natAbs wx hz)
  have HV := Lib.hid (show (if (!decide (z < 0)) = true then -(z.natAbs : Int) else (z.natAbs : Int)) = -z by
    by_cases h : z < 0
    · rw [decide_eq_true h]; simp; omega
    · rw [decide_eq_false h]; simp; omega)
  rw [HV.out] at HG
  obtain ⟨s, hs⟩ : ∃ s, s = zS z := ⟨_, rfl⟩
  rw [← hs] at HS ⊢
  obtain ⟨b, hb⟩ : ∃ b, b = decide (z < 0) := ⟨_, rfl⟩
  rw [← hb] at HS HG
  clear hs hz HV hb
  cases b
  all_goals
    go_enter Tryz.func70, Tryz.ntmps70
    go_wp2_with fail
    refine HS.out.mono ?_
    rintro e w' ⟨rfl, hb⟩
    have HB := Lib.hid hb
    clear hb
    go_wp2_with fail
    refine (HG.out _).mono ?_
    rintro e w2 ⟨rfl, rfl⟩
    go_wp2_with fail
    go_ret
    exact ⟨rfl, HB.out⟩

end Go.Proofs.YtgkfdgdlmpggpaaGreatDoor

namespace Go.Proofs.YtgkfdgdlmpggpaaGreatDoor
open Go.RowKit

def cmpZ (x y : Int) : Int := if x < y then -1 else if y < x then 1 else 0
theorem cmpN_ways (a b : Nat) : (a < b ∧ cmpN a b = -1) ∨ (a = b ∧ cmpN a b = 0) ∨ (b < a ∧ cmpN a b = 1) := by
  rcases Nat.lt_trichotomy a b with h | h | h
  · exact .inl ⟨h, cmp_lt h⟩
  · subst h; exact .inr (.inl ⟨rfl, cmp_eq a⟩)
  · exact .inr (.inr ⟨h, cmp_gt h⟩)
theorem sgnI_ways (z : Int) : (z < 0 ∧ sgnI z = -1) ∨ (z = 0 ∧ sgnI z = 0) ∨ (0 < z ∧ sgnI z = 1) := by
  unfold sgnI
  rcases (by omega : z = 0 ∨ z < 0 ∨ 0 < z) with h | h | h
  · exact .inr (.inl ⟨h, if_pos h⟩)
  · exact .inl ⟨h, by rw [if_neg (by omega), if_pos h]⟩
  · exact .inr (.inr ⟨h, by rw [if_neg (by omega), if_neg (by omega)]⟩)
theorem cmpZ_ways (x y : Int) : (x < y ∧ cmpZ x y = -1) ∨ (x = y ∧ cmpZ x y = 0) ∨ (y < x ∧ cmpZ x y = 1) := by
  unfold cmpZ
  rcases (by omega : x < y ∨ x = y ∨ y < x) with h | h | h
  · exact .inl ⟨h, if_pos h⟩
  · exact .inr (.inl ⟨h, by rw [if_neg (by omega), if_neg (by omega)]⟩)
  · exact .inr (.inr ⟨h, by rw [if_neg (by omega), if_pos h]⟩)
theorem cmp_diff {x y : Int} (h : sgnI x ≠ sgnI y) : Lib.compareInt (sgnI x) (sgnI y) = cmpZ x y ∧ sgnI x ≠ sgnI y := by
  refine ⟨?_, h⟩
  unfold Lib.compareInt
  rcases sgnI_ways x with ⟨h1, e1⟩ | ⟨h1, e1⟩ | ⟨h1, e1⟩ <;> rcases sgnI_ways y with ⟨h2, e2⟩ | ⟨h2, e2⟩ | ⟨h2, e2⟩ <;> rw [e1, e2] at h ⊢ <;>
    rcases cmpZ_ways x y with ⟨h3, e3⟩ | ⟨h3, e3⟩ | ⟨h3, e3⟩ <;> rw [e3] <;> first | (exfalso; omega) | rfl | decide
theorem cmp_same {x y : Int} (h : sgnI x = sgnI y) : sgnI x * cmpN x.natAbs y.natAbs = cmpZ x y := by
  rcases sgnI_ways x with ⟨h1, e1⟩ | ⟨h1, e1⟩ | ⟨h1, e1⟩ <;> rcases sgnI_ways y with ⟨h2, e2⟩ | ⟨h2, e2⟩ | ⟨h2, e2⟩ <;> rw [e1, e2] at h <;> first | (exfalso; omega) | skip
  all_goals
    rw [e1]
    rcases cmpN_ways x.natAbs y.natAbs with ⟨h4, e4⟩ | ⟨h4, e4⟩ | ⟨h4, e4⟩ <;>
      rcases cmpZ_ways x y with ⟨h3, e3⟩ | ⟨h3, e3⟩ | ⟨h3, e3⟩ <;> rw [e3, e4] <;> first | (exfalso; omega) | rfl | decide
set_option maxHeartbeats 800000 in
theorem cmpW_any (x y : Int) (w : World) (hx : (str x.natAbs).size ≤ 1000000) (hy : (str y.natAbs).size ≤ 1000000) :
    Calls Tryz.prog 105 #[.string (zS x), .string (zS y)] w fun e w' => e = .returned (.int .i64 (cmpZ x y)) ∧ Below w.heap.size w w' := by
  have HSX := Lib.hid (fun wx => sign_any x wx hx)
  have HSY := Lib.hid (fun wx => sign_any y wx hy)
  have HAX := Lib.hid (fun wx => abs_any x wx hx)
  have HAY := Lib.hid (fun wx => abs_any y wx hy)
  have HCM := Lib.hid (fun wx => compare_any x.natAbs y.natAbs wx)
  have HCI := Lib.hid (fun wx => Tryz.cmp_Compare_int (sgnI x) (sgnI y) wx)
  obtain ⟨s, hs⟩ : ∃ s, s = zS x := ⟨_, rfl⟩
  obtain ⟨t, ht⟩ : ∃ t, t = zS y := ⟨_, rfl⟩
  rw [← hs] at HSX HAX ⊢
  rw [← ht] at HSY HAY ⊢
  obtain ⟨a, ha⟩ : ∃ a, a = str x.natAbs := ⟨_, rfl⟩
  obtain ⟨b, hb⟩ : ∃ b, b = str y.natAbs := ⟨_, rfl⟩
  rw [← ha] at HAX HCM
  rw [← hb] at HAY HCM
  clear hs ht ha hb hx hy
  by_cases h : sgnI x = sgnI y
  · have hm := cmp_same h
    have hn : (sgnI x != sgnI y) = false := by rw [h]; simp
    obtain ⟨C, hC⟩ : ∃ C, C = cmpN x.natAbs y.natAbs := ⟨_, rfl⟩
    have hw := IntWalk.i64_in (sgnI x * cmpN x.natAbs y.natAbs) (by rw [hm]; rcases cmpZ_ways x y with ⟨_, e⟩ | ⟨_, e⟩ | ⟨_, e⟩ <;> rw [e] <;> decide)
    rw [hm] at hw
    rw [← hC] at HCM hm
    obtain ⟨X, hX⟩ : ∃ X, X = sgnI x := ⟨_, rfl⟩
    obtain ⟨Y, hY⟩ : ∃ Y, Y = sgnI y := ⟨_, rfl⟩
    obtain ⟨Z, hZ⟩ : ∃ Z, Z = cmpZ x y := ⟨_, rfl⟩
    rw [← hX] at HSX hn hm
    rw [← hY] at HSY hn
    rw [← hZ] at hm hw ⊢
    clear h hC hX hY hZ HCI
    go_enter Tryz.func105, Tryz.ntmps105
    go_wp2_with fail
    refine (HSX.out _).mono ?_
    rintro e w1 ⟨rfl, rfl⟩
    go_wp2_with fail
    refine (HSY.out _).mono ?_
    rintro e w1 ⟨rfl, rfl⟩
    go_wp2_with fail
    refine (HAX.out _).mono ?_
    rintro e w1 ⟨rfl, h1⟩
    have B1 := Lib.hid h1
    clear h1
    go_wp2_with fail
    refine (HAY.out _).mono ?_
    rintro e w2 ⟨rfl, h2⟩
    have B2 := Lib.hid (B1.out.trans (h2.mono B1.out.size))
    clear h2
    go_wp2_with fail
    refine (HCM.out _).mono ?_
    rintro e w3 ⟨rfl, rfl⟩
    go_wp2_with fail
    go_ret
    exact ⟨rfl, B2.out⟩
  · obtain ⟨hm, -⟩ := cmp_diff h
    have hn : (sgnI x != sgnI y) = true := by simpa using h
    rw [hm] at HCI
    obtain ⟨X, hX⟩ : ∃ X, X = sgnI x := ⟨_, rfl⟩
    obtain ⟨Y, hY⟩ : ∃ Y, Y = sgnI y := ⟨_, rfl⟩
    obtain ⟨Z, hZ⟩ : ∃ Z, Z = cmpZ x y := ⟨_, rfl⟩
    rw [← hX] at HSX hn HCI
    rw [← hY] at HSY hn HCI
    rw [← hZ] at HCI ⊢
    clear h hm hX hY hZ HAX HAY HCM
    go_enter Tryz.func105, Tryz.ntmps105
    go_wp2_with fail
    refine (HSX.out _).mono ?_
    rintro e w1 ⟨rfl, rfl⟩
    go_wp2_with fail
    refine (HSY.out _).mono ?_
    rintro e w1 ⟨rfl, rfl⟩
    go_wp2_with fail
    refine (HSY.out _).mono ?_
    rintro e w1 ⟨rfl, rfl⟩
    go_wp2_with fail
    refine (HCI.out _).mono ?_
    rintro e w1 ⟨rfl, hw1⟩
    obtain rfl := hw1
    go_wp2_with fail
    go_ret
    exact ⟨rfl, Below.refl _ _⟩

end Go.Proofs.YtgkfdgdlmpggpaaGreatDoor
