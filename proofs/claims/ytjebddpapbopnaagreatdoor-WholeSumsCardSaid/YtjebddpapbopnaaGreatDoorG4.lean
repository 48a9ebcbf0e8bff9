/-
  Texts of one seat, joined: ZLeaf ZSign ZNeg ZComp ZSmall ZFew ZAdd ZMul ZRef ZCmpR ZDown ZDiv ZGcd ZQuo ZBzM ZCan ZLcm.
-/
import Derived.Test.YtjebddpapbopnaaGreatDoorG1
import Derived.RegionTactic
import Derived.Test.YtjebddpapbopnaaGreatDoorG2
import Derived.Deep.RegionWith
import Derived.Test.YtjebddpapbopnaaGreatDoorG3
namespace Go.Proofs.YtjebddpapbopnaaGreatDoor
open Go.RowKit

/-- the text of an integer -/
def zS (z : Int) : ByteArray := if z < 0 then ⟨#[45]⟩ ++ str z.natAbs else str z.natAbs
theorem zS_neg {z : Int} (h : z < 0) : zS z = ⟨#[45]⟩ ++ str z.natAbs := if_pos h
theorem zS_pos {z : Int} (h : ¬ z < 0) : zS z = str z.natAbs := if_neg h
theorem str_pos (n : Nat) : 0 < (str n).size := by
  rw [str_size]; exact Lib.nDigits_pos n
theorem str_hd (n : Nat) : (((str n)[0]'(str_pos n)).toNat : Int) ≠ 45 := by
  have h := at_list (str n) 0 (str_pos n)
  have hm : (str n)[0]'(str_pos n) ∈ (str n).data.toList := by rw [← h]; exact List.getElem_mem _
  rw [str_list] at hm
  have := List.all_eq_true.1 (all_dd n) _ hm
  have := isD_lt this
  omega
structure NegS (s : ByteArray) (n : Nat) : Prop where
  sz : s.size = (str n).size + 1
  pos : 0 < s.size
  hd : (s[0]'pos) = 45
  tl : s.extract 1 s.size = str n
theorem negS (n : Nat) : NegS (⟨#[45]⟩ ++ str n) n := by
  have hs : (⟨#[45]⟩ ++ str n : ByteArray).size = (str n).size + 1 := by
    rw [ByteArray.size_append]; show 1 + _ = _; omega
  have hd : (⟨#[45]⟩ ++ str n : ByteArray).data.toList = 45 :: (str n).data.toList := by
    rw [ByteArray.data_append]; simp
  refine ⟨hs, by omega, ?_, ?_⟩
  · have h := at_list (⟨#[45]⟩ ++ str n) 0 (by omega)
    rw [← h]; simp
  · apply ByteArray.ext
    rw [ByteArray.data_extract]
    apply Array.toList_inj.1
    rw [Array.toList_extract, hd, hs]
    simp [List.extract]
    exact List.take_of_length_le (by rw [len_list]; exact Nat.le_refl _)
set_option maxHeartbeats 800000 in
theorem split_any (z : Int) (w : World) (hz : (str z.natAbs).size ≤ 1000000) :
    Calls Tryz.prog 51 #[.string (zS z)] w fun e w' => e = .returned (.tuple #[.bool (decide (z < 0)), .string (str z.natAbs)]) ∧ Below w.heap.size w w' := by
  by_cases h : z < 0
  · rw [zS_neg h, decide_eq_true h]
    have hn := negS z.natAbs
    obtain ⟨s, hs⟩ : ∃ s, s = ⟨#[45]⟩ ++ str z.natAbs := ⟨_, rfl⟩
    rw [← hs] at hn ⊢
    obtain ⟨h1, h0, h2, h3⟩ := hn
    have hlim : s.size ≤ 1000001 := by omega
    have hb : (((s[0]'h0).toNat : Int) == 45) = true := by rw [h2]; rfl
    have H3 := Lib.hid h3
    have hp : (0 : Int) < s.size := by omega
    have h1' : 1 ≤ s.size := h0
    clear hs h3 h2 h1
    go_enter Tryz.func51, Tryz.ntmps51
    go_wp2_with fail
    go_quiet (fail)
    go_wp2_with fail
    go_ret2
    exact ⟨by rw [H3.out]; rfl, below_drewN (Below.refl _ _) _⟩
  · rw [zS_pos h, decide_eq_false h]
    have h0 := str_pos z.natAbs
    have hb := str_hd z.natAbs
    obtain ⟨s, hs⟩ : ∃ s, s = str z.natAbs := ⟨_, rfl⟩
    rw [← hs] at hz ⊢
    have h0' : 0 < s.size := by rw [hs]; exact h0
    have hb' : (((s[0]'h0').toNat : Int) == 45) = false := by
      rw [beq_eq_false_iff_ne]; subst hs; exact hb
    have hp : (0 : Int) < s.size := by omega
    clear hb h0 hs
    go_enter Tryz.func51, Tryz.ntmps51
    go_wp2_with fail
    go_ret2
    exact ⟨rfl, Below.refl _ _⟩
end Go.Proofs.YtjebddpapbopnaaGreatDoor

namespace Go.Proofs.YtjebddpapbopnaaGreatDoor
open Go.RowKit

def sgnI (z : Int) : Int := if z = 0 then 0 else if z < 0 then -1 else 1
theorem zS_zero : zS 0 = ⟨#[48]⟩ := by
  show str 0 = _
  exact (str_eq 0 (by decide) (by decide)).symm
theorem tl_ne {s : ByteArray} (h : s.toList ≠ [48]) : (s.toList == [48]) = false := by rw [beq_eq_false_iff_ne]; exact h
theorem str_tl (n : Nat) : (str n).toList = Lib.decDigits n := by rw [tl, str_list]
theorem dd0 : Lib.decDigits 0 = [48] := Lib.decDigits_one (by decide)
theorem str_not48 {n : Nat} (h : n ≠ 0) : (str n).toList ≠ [48] := by
  rw [str_tl]
  intro e
  have : str n = str 0 := by
    apply ByteArray.ext; apply Array.toList_inj.1
    rw [str_list, e, str_list, dd0]
  exact h (str_inj this)
theorem str_not0 (n : Nat) : (str n).toList ≠ [] := by
  rw [str_tl]; exact dd_ne n
theorem neg_tl (n : Nat) : (⟨#[45]⟩ ++ str n : ByteArray).toList = 45 :: Lib.decDigits n := by
  rw [tl, ByteArray.data_append, ← str_list]; simp
/-- what the walks ask of a text -/
structure ZF (s : ByteArray) (z : Int) : Prop where
  pos : 0 < s.size
  lim : s.size ≤ 1000001
  neg : (((s[0]'pos).toNat : Int) == 45) = decide (z < 0)
  zero : (s.toList == [48]) = decide (z = 0)
  nil : (s.toList == []) = false
theorem zF (z : Int) (hz : (str z.natAbs).size ≤ 1000000) : ZF (zS z) z := by
  by_cases h : z < 0
  · have hn := negS z.natAbs
    rw [zS_neg h]
    refine ⟨hn.pos, by have := hn.sz; omega, by rw [hn.hd, decide_eq_true h]; rfl, ?_, ?_⟩
    · rw [neg_tl, decide_eq_false (by omega)]; rfl
    · rw [neg_tl]; rfl
  · rw [zS_pos h]
    refine ⟨str_pos _, by omega, by rw [decide_eq_false h, beq_eq_false_iff_ne]; exact str_hd _, ?_, ?_⟩
    · by_cases h0 : z = 0
      · subst h0; rw [decide_eq_true rfl, str_tl, show Int.natAbs 0 = 0 from rfl, dd0]; rfl
      · rw [decide_eq_false h0]; exact tl_ne (str_not48 (by omega))
    · rw [beq_eq_false_iff_ne]; exact str_not0 _
set_option maxHeartbeats 800000 in
theorem sign_any (z : Int) (w : World) (hz : (str z.natAbs).size ≤ 1000000) :
    Calls Tryz.prog 24 #[.string (zS z)] w fun e w' => e = .returned (.int .i64 (sgnI z)) ∧ w = w' := by
  have hf := zF z hz
  obtain ⟨s, hs⟩ : ∃ s, s = zS z := ⟨_, rfl⟩
  rw [← hs] at hf ⊢
  obtain ⟨h0, h1, h2, h3, h4⟩ := hf
  rcases (by omega : z = 0 ∨ z < 0 ∨ 0 < z) with h | h | h
  · subst h
    rw [decide_eq_true rfl] at h3
    clear hs h2 hz
    go_enter Tryz.func24, Tryz.ntmps24
    go_wp2_with fail
    go_ret
    exact ⟨rfl, rfl⟩
  · have HV := Lib.hid (show sgnI z = -1 by unfold sgnI; rw [if_neg (by omega), if_pos h])
    rw [decide_eq_true h] at h2
    rw [decide_eq_false (by omega)] at h3
    clear hs hz
    go_enter Tryz.func24, Tryz.ntmps24
    go_wp2_with fail
    go_ret
    exact ⟨by rw [HV.out]; rfl, rfl⟩
  · have HV := Lib.hid (show sgnI z = 1 by unfold sgnI; rw [if_neg (by omega), if_neg (by omega)])
    rw [decide_eq_false (by omega)] at h2 h3
    clear hs hz
    go_enter Tryz.func24, Tryz.ntmps24
    go_wp2_with fail
    go_ret
    exact ⟨by rw [HV.out]; rfl, rfl⟩
end Go.Proofs.YtjebddpapbopnaaGreatDoor

namespace Go.Proofs.YtjebddpapbopnaaGreatDoor
open Go.RowKit

theorem zS_pos' {z : Int} (h : ¬ z < 0) : zS z = str z.natAbs := zS_pos h
theorem zS_of_nat (n : Nat) : zS (n : Int) = str n := by rw [zS_pos (by omega)]; rfl
theorem zS_of_neg (n : Nat) (h : n ≠ 0) : zS (-(n : Int)) = ⟨#[45]⟩ ++ str n := by
  rw [zS_neg (by omega), show (-(n : Int)).natAbs = n by omega]
set_option maxHeartbeats 800000 in
theorem signed_any (neg : Bool) (n : Nat) (w : World) (hz : (str n).size ≤ 1000000) :
    Calls Tryz.prog 57 #[.bool neg, .string (str n)] w fun e w' => e = .returned (.string (zS (if neg = true then -(n : Int) else (n : Int)))) ∧ w = w' := by
  have hn := zF (n : Int) (by rw [show ((n : Int)).natAbs = n by omega]; exact hz)
  rw [zS_of_nat] at hn
  obtain ⟨h0, h1, h2, h3, h4⟩ := hn
  cases neg with
  | false =>
    rw [if_neg (by decide), zS_of_nat]
    obtain ⟨s, hs⟩ : ∃ s, s = str n := ⟨_, rfl⟩
    rw [← hs]
    clear h1 h2 h3 h4 hz hs
    go_enter Tryz.func57, Tryz.ntmps57
    go_wp2_with fail
    go_ret
    exact ⟨rfl, rfl⟩
  | true =>
    rw [if_pos rfl]
    by_cases h : n = 0
    · subst h
      have HV := Lib.hid (show zS (-((0 : Nat) : Int)) = str 0 from zS_of_nat 0)
      rw [decide_eq_true (by rfl)] at h3
      obtain ⟨Z, hZ⟩ : ∃ Z, Z = zS (-((0 : Nat) : Int)) := ⟨_, rfl⟩
      rw [← hZ] at HV ⊢
      obtain ⟨s, hs⟩ : ∃ s, s = str 0 := ⟨_, rfl⟩
      rw [← hs] at h0 h1 h3 h4 hz HV ⊢
      clear h2 hs hZ
      go_enter Tryz.func57, Tryz.ntmps57
      go_wp2_with fail
      go_ret
      exact ⟨by rw [HV.out]; rfl, rfl⟩
    · rw [decide_eq_false (by omega)] at h3
      have HV := Lib.hid (zS_of_neg n h)
      obtain ⟨Z, hZ⟩ : ∃ Z, Z = zS (-(n : Int)) := ⟨_, rfl⟩
      rw [← hZ] at HV ⊢
      obtain ⟨s, hs⟩ : ∃ s, s = str n := ⟨_, rfl⟩
      rw [← hs] at h0 h1 h3 h4 hz HV ⊢
      clear h2 hs hZ h
      go_enter Tryz.func57, Tryz.ntmps57
      go_wp2_with fail
      go_ret
      exact ⟨by rw [HV.out]; rfl, rfl⟩
set_option maxHeartbeats 400000 in
theorem abs_any (z : Int) (w : World) (hz : (str z.natAbs).size ≤ 1000000) :
    Calls Tryz.prog 30 #[.string (zS z)] w fun e w' => e = .returned (.string (str z.natAbs)) ∧ Below w.heap.size w w' := by
  have HS := Lib.hid (split_any z w hz)
  obtain ⟨s, hs⟩ : ∃ s, s = zS z := ⟨_, rfl⟩
  rw [← hs] at HS ⊢
  clear hs hz
  go_enter Tryz.func30, Tryz.ntmps30
  go_wp2_with fail
  refine HS.out.mono ?_
  rintro e w' ⟨rfl, hb⟩
  have HB := Lib.hid hb
  clear hb
  go_wp2_with fail
  go_ret
  exact ⟨rfl, HB.out⟩
set_option maxHeartbeats 400000 in
theorem neg_any (z : Int) (w : World) (hz : (str z.natAbs).size ≤ 1000000) :
    Calls Tryz.prog 28 #[.string (zS z)] w fun e w' => e = .returned (.string (zS (-z))) ∧ Below w.heap.size w w' := by
  have HS := Lib.hid (split_any z w hz)
  have HG := Lib.hid (fun wx => signed_any (!decide (z < 0)) z.natAbs wx hz)
  have HV := Lib.hid (show (if (!decide (z < 0)) = true then -(z.natAbs : Int) else (z.natAbs : Int)) = -z by
    by_cases h : z < 0
    · rw [decide_eq_true h]; simp; omega
    · rw [decide_eq_false h]; simp; omega)
  rw [HV.out] at HG
  obtain ⟨s, hs⟩ : ∃ s, s = zS z := ⟨_, rfl⟩
  rw [← hs] at HS ⊢
  obtain ⟨b, hb⟩ : ∃ b, b = decide (z < 0) := ⟨_, rfl⟩
  rw [← hb] at HS HG
  clear hs hz HV hb
  cases b
  all_goals
    go_enter Tryz.func28, Tryz.ntmps28
    go_wp2_with fail
    refine HS.out.mono ?_
    rintro e w' ⟨rfl, hb⟩
    have HB := Lib.hid hb
    clear hb
    go_wp2_with fail
    refine (HG.out _).mono ?_
    rintro e w2 ⟨rfl, rfl⟩
    go_wp2_with fail
    go_ret
    exact ⟨rfl, HB.out⟩
set_option maxHeartbeats 800000 in
theorem signR_any (z : Int) (w : World) (hz : (str z.natAbs).size ≤ 1000000) :
    Calls Tryz.prog 25 #[.string (zS z)] w fun e w' => e = .returned (.int .i64 (sgnI z)) ∧ w = w' := by
  have hf := zF z hz
  obtain ⟨s, hs⟩ : ∃ s, s = zS z := ⟨_, rfl⟩
  rw [← hs] at hf ⊢
  obtain ⟨h0, h1, h2, h3, h4⟩ := hf
  rcases (by omega : z = 0 ∨ z < 0 ∨ 0 < z) with h | h | h
  · subst h
    rw [decide_eq_true rfl] at h3
    clear hs h2 hz
    go_enter Tryz.func25, Tryz.ntmps25
    go_wp2_with fail
    go_ret
    exact ⟨rfl, rfl⟩
  · have HV := Lib.hid (show sgnI z = -1 by unfold sgnI; rw [if_neg (by omega), if_pos h])
    rw [decide_eq_true h] at h2
    rw [decide_eq_false (by omega)] at h3
    clear hs hz
    go_enter Tryz.func25, Tryz.ntmps25
    go_wp2_with fail
    go_ret
    exact ⟨by rw [HV.out]; rfl, rfl⟩
  · have HV := Lib.hid (show sgnI z = 1 by unfold sgnI; rw [if_neg (by omega), if_neg (by omega)])
    rw [decide_eq_false (by omega)] at h2 h3
    clear hs hz
    go_enter Tryz.func25, Tryz.ntmps25
    go_wp2_with fail
    go_ret
    exact ⟨by rw [HV.out]; rfl, rfl⟩
set_option maxHeartbeats 800000 in
theorem digitsR_any (z : Int) (w : World) (hz : (str z.natAbs).size ≤ 1000000) :
    Calls Tryz.prog 50 #[.string (zS z)] w fun e w' => e = .returned (.string (str z.natAbs)) ∧ w = w' := by
  have hf := zF z hz
  by_cases h : z < 0
  · skip
    have hx := (negS z.natAbs).tl
    rw [zS_neg h] at hf ⊢
    obtain ⟨s, hs⟩ : ∃ s, s = ⟨#[45]⟩ ++ str z.natAbs := ⟨_, rfl⟩
    rw [← hs] at hf hx ⊢
    obtain ⟨h0, h1, h2, h3, h4⟩ := hf
    rw [decide_eq_true h] at h2
    have HX := Lib.hid hx
    have hp : (0 : Int) < s.size := by omega
    have h1' : 1 ≤ s.size := h0
    clear hs hz h3 h4 hx h
    go_enter Tryz.func50, Tryz.ntmps50
    go_wp2_with fail
    go_ret
    exact ⟨by rw [← HX.out]; rfl, rfl⟩
  · rw [zS_pos h] at hf ⊢
    obtain ⟨s, hs⟩ : ∃ s, s = str z.natAbs := ⟨_, rfl⟩
    rw [← hs] at hf ⊢
    obtain ⟨h0, h1, h2, h3, h4⟩ := hf
    rw [decide_eq_false h] at h2
    have hp : (0 : Int) < s.size := by omega
    clear hs hz h3 h4 h
    go_enter Tryz.func50, Tryz.ntmps50
    go_wp2_with fail
    go_ret
    exact ⟨rfl, rfl⟩
end Go.Proofs.YtjebddpapbopnaaGreatDoor

namespace Go.Proofs.YtjebddpapbopnaaGreatDoor
open Go.RowKit

def cmpZ (x y : Int) : Int := if x < y then -1 else if y < x then 1 else 0
theorem cmpN_ways (a b : Nat) : (a < b ∧ cmpN a b = -1) ∨ (a = b ∧ cmpN a b = 0) ∨ (b < a ∧ cmpN a b = 1) := by
  rcases Nat.lt_trichotomy a b with h | h | h
  · exact .inl ⟨h, cmp_lt h⟩
  · subst h; exact .inr (.inl ⟨rfl, cmp_eq a⟩)
  · exact .inr (.inr ⟨h, cmp_gt h⟩)
theorem sgnI_ways (z : Int) : (z < 0 ∧ sgnI z = -1) ∨ (z = 0 ∧ sgnI z = 0) ∨ (0 < z ∧ sgnI z = 1) := by
  unfold sgnI
  rcases (by omega : z = 0 ∨ z < 0 ∨ 0 < z) with h | h | h
  · exact .inr (.inl ⟨h, if_pos h⟩)
  · exact .inl ⟨h, by rw [if_neg (by omega), if_pos h]⟩
  · exact .inr (.inr ⟨h, by rw [if_neg (by omega), if_neg (by omega)]⟩)
theorem cmpZ_ways (x y : Int) : (x < y ∧ cmpZ x y = -1) ∨ (x = y ∧ cmpZ x y = 0) ∨ (y < x ∧ cmpZ x y = 1) := by
  unfold cmpZ
  rcases (by omega : x < y ∨ x = y ∨ y < x) with h | h | h
  · exact .inl ⟨h, if_pos h⟩
  · exact .inr (.inl ⟨h, by rw [if_neg (by omega), if_neg (by omega)]⟩)
  · exact .inr (.inr ⟨h, by rw [if_neg (by omega), if_pos h]⟩)
theorem cmp_diff {x y : Int} (h : sgnI x ≠ sgnI y) : Lib.compareInt (sgnI x) (sgnI y) = cmpZ x y ∧ sgnI x ≠ sgnI y := by
  refine ⟨?_, h⟩
  unfold Lib.compareInt
  rcases sgnI_ways x with ⟨h1, e1⟩ | ⟨h1, e1⟩ | ⟨h1, e1⟩ <;> rcases sgnI_ways y with ⟨h2, e2⟩ | ⟨h2, e2⟩ | ⟨h2, e2⟩ <;> rw [e1, e2] at h ⊢ <;>
    rcases cmpZ_ways x y with ⟨h3, e3⟩ | ⟨h3, e3⟩ | ⟨h3, e3⟩ <;> rw [e3] <;> first | (exfalso; omega) | rfl | decide
theorem cmp_same {x y : Int} (h : sgnI x = sgnI y) : sgnI x * cmpN x.natAbs y.natAbs = cmpZ x y := by
  rcases sgnI_ways x with ⟨h1, e1⟩ | ⟨h1, e1⟩ | ⟨h1, e1⟩ <;> rcases sgnI_ways y with ⟨h2, e2⟩ | ⟨h2, e2⟩ | ⟨h2, e2⟩ <;> rw [e1, e2] at h <;> first | (exfalso; omega) | skip
  all_goals
    rw [e1]
    rcases cmpN_ways x.natAbs y.natAbs with ⟨h4, e4⟩ | ⟨h4, e4⟩ | ⟨h4, e4⟩ <;>
      rcases cmpZ_ways x y with ⟨h3, e3⟩ | ⟨h3, e3⟩ | ⟨h3, e3⟩ <;> rw [e3, e4] <;> first | (exfalso; omega) | rfl | decide
set_option maxHeartbeats 800000 in
theorem cmpW_any (x y : Int) (w : World) (hx : (str x.natAbs).size ≤ 1000000) (hy : (str y.natAbs).size ≤ 1000000) :
    Calls Tryz.prog 26 #[.string (zS x), .string (zS y)] w fun e w' => e = .returned (.int .i64 (cmpZ x y)) ∧ Below w.heap.size w w' := by
  have HSX := Lib.hid (fun wx => sign_any x wx hx)
  have HSY := Lib.hid (fun wx => sign_any y wx hy)
  have HAX := Lib.hid (fun wx => abs_any x wx hx)
  have HAY := Lib.hid (fun wx => abs_any y wx hy)
  have HCM := Lib.hid (fun wx => compare_any x.natAbs y.natAbs wx)
  have HCI := Lib.hid (fun wx => Tryz.cmp_Compare_int (sgnI x) (sgnI y) wx)
  obtain ⟨s, hs⟩ : ∃ s, s = zS x := ⟨_, rfl⟩
  obtain ⟨t, ht⟩ : ∃ t, t = zS y := ⟨_, rfl⟩
  rw [← hs] at HSX HAX ⊢
  rw [← ht] at HSY HAY ⊢
  obtain ⟨a, ha⟩ : ∃ a, a = str x.natAbs := ⟨_, rfl⟩
  obtain ⟨b, hb⟩ : ∃ b, b = str y.natAbs := ⟨_, rfl⟩
  rw [← ha] at HAX HCM
  rw [← hb] at HAY HCM
  clear hs ht ha hb hx hy
  by_cases h : sgnI x = sgnI y
  · have hm := cmp_same h
    have hn : (sgnI x != sgnI y) = false := by rw [h]; simp
    obtain ⟨C, hC⟩ : ∃ C, C = cmpN x.natAbs y.natAbs := ⟨_, rfl⟩
    have hw := IntWalk.i64_in (sgnI x * cmpN x.natAbs y.natAbs) (by rw [hm]; rcases cmpZ_ways x y with ⟨_, e⟩ | ⟨_, e⟩ | ⟨_, e⟩ <;> rw [e] <;> decide)
    rw [hm] at hw
    rw [← hC] at HCM hm
    obtain ⟨X, hX⟩ : ∃ X, X = sgnI x := ⟨_, rfl⟩
    obtain ⟨Y, hY⟩ : ∃ Y, Y = sgnI y := ⟨_, rfl⟩
    obtain ⟨Z, hZ⟩ : ∃ Z, Z = cmpZ x y := ⟨_, rfl⟩
    rw [← hX] at HSX hn hm
    rw [← hY] at HSY hn
    rw [← hZ] at hm hw ⊢
    clear h hC hX hY hZ HCI
    go_enter Tryz.func26, Tryz.ntmps26
    go_wp2_with fail
    refine (HSX.out _).mono ?_
    rintro e w1 ⟨rfl, rfl⟩
    go_wp2_with fail
    refine (HSY.out _).mono ?_
    rintro e w1 ⟨rfl, rfl⟩
    go_wp2_with fail
    refine (HAX.out _).mono ?_
    rintro e w1 ⟨rfl, h1⟩
    have B1 := Lib.hid h1
    clear h1
    go_wp2_with fail
    refine (HAY.out _).mono ?_
    rintro e w2 ⟨rfl, h2⟩
    have B2 := Lib.hid (B1.out.trans (h2.mono B1.out.size))
    clear h2
    go_wp2_with fail
    refine (HCM.out _).mono ?_
    rintro e w3 ⟨rfl, rfl⟩
    go_wp2_with fail
    go_ret
    exact ⟨rfl, B2.out⟩
  · obtain ⟨hm, -⟩ := cmp_diff h
    have hn : (sgnI x != sgnI y) = true := by simpa using h
    rw [hm] at HCI
    obtain ⟨X, hX⟩ : ∃ X, X = sgnI x := ⟨_, rfl⟩
    obtain ⟨Y, hY⟩ : ∃ Y, Y = sgnI y := ⟨_, rfl⟩
    obtain ⟨Z, hZ⟩ : ∃ Z, Z = cmpZ x y := ⟨_, rfl⟩
    rw [← hX] at HSX hn HCI
    rw [← hY] at HSY hn HCI
    rw [← hZ] at HCI ⊢
    clear h hm hX hY hZ HAX HAY HCM
    go_enter Tryz.func26, Tryz.ntmps26
    go_wp2_with fail
    refine (HSX.out _).mono ?_
    rintro e w1 ⟨rfl, rfl⟩
    go_wp2_with fail
    refine (HSY.out _).mono ?_
    rintro e w1 ⟨rfl, rfl⟩
    go_wp2_with fail
    refine (HSY.out _).mono ?_
    rintro e w1 ⟨rfl, rfl⟩
    go_wp2_with fail
    refine (HCI.out _).mono ?_
    rintro e w1 ⟨rfl, hw1⟩
    obtain rfl := hw1
    go_wp2_with fail
    go_ret
    exact ⟨rfl, Below.refl _ _⟩
set_option maxHeartbeats 400000 in
theorem absR_any (z : Int) (w : World) (hz : (str z.natAbs).size ≤ 1000000) :
    Calls Tryz.prog 31 #[.string (zS z)] w fun e w' => e = .returned (.string (str z.natAbs)) ∧ w = w' := by
  have HD := Lib.hid (digitsR_any z w hz)
  obtain ⟨s, hs⟩ : ∃ s, s = zS z := ⟨_, rfl⟩
  rw [← hs] at HD ⊢
  clear hs hz
  go_enter Tryz.func31, Tryz.ntmps31
  go_wp2_with fail
  refine HD.out.mono ?_
  rintro e w1 ⟨rfl, rfl⟩
  go_wp2_with fail
  go_ret
  exact ⟨rfl, rfl⟩
set_option maxHeartbeats 400000 in
theorem sideR_any (z : Int) (w : World) (hz : (str z.natAbs).size ≤ 1000000) :
    Calls Tryz.prog 60 #[.string (zS z)] w fun e w' => e = .returned (.int .i64 (if z < 0 then -1 else 1)) ∧ w = w' := by
  have hsg := fun wx => signR_any z wx hz
  obtain ⟨s, hs⟩ : ∃ s, s = zS z := ⟨_, rfl⟩
  rw [← hs] at hsg ⊢
  clear hs hz
  rcases sgnI_ways z with ⟨h, e⟩ | ⟨h, e⟩ | ⟨h, e⟩
  all_goals
    rw [e] at hsg
    have HD := Lib.hid hsg
    first | rw [if_pos h] | rw [if_neg (by omega)]
    clear hsg h e
    go_enter Tryz.func60, Tryz.ntmps60
    go_wp2_with fail
    refine (HD.out _).mono ?_
    rintro e w1 ⟨rfl, rfl⟩
    go_wp2_with fail
    go_ret
    exact ⟨rfl, rfl⟩
end Go.Proofs.YtjebddpapbopnaaGreatDoor

namespace Go.Proofs.YtjebddpapbopnaaGreatDoor
open Go.RowKit

def inI (z : Int) : Bool := decide (-9223372036854775808 ≤ z) && decide (z ≤ 9223372036854775807)
def smV (z : Int) : Int := if inI z = true then z else 0
set_option maxHeartbeats 1600000 in
theorem smallW_any (z : Int) (w : World) (hs : Std w) (hz : (str z.natAbs).size ≤ 1000000) :
    Calls Tryz.prog 16 #[.string (zS z)] w fun e w' => e = .returned (.tuple #[.int .i64 (smV z), .bool (inI z)]) ∧ Below w.heap.size w w' := by
  have HS := Lib.hid (split_any z w hz)
  have HSTD := Lib.hid hs
  obtain ⟨s, hs2⟩ : ∃ s, s = zS z := ⟨_, rfl⟩
  rw [← hs2] at HS ⊢
  obtain ⟨n, hn⟩ : ∃ n : Nat, n = z.natAbs := ⟨_, rfl⟩
  rw [← hn] at HS
  have hY := fun wx (h : n < 18446744073709551616) => small_yes n h wx
  have hN := fun wx (h : ¬ n < 18446744073709551616) hw => small_no n h wx hw
  obtain ⟨d, hd⟩ : ∃ d, d = str n := ⟨_, rfl⟩
  rw [← hd] at HS hY hN
  have HY := Lib.hid hY
  have HN := Lib.hid hN
  clear hs2 hd hs hz hY hN
  by_cases h64 : n < 18446744073709551616
  · by_cases h63 : n ≤ 9223372036854775807
    · have HI := Lib.hid (show inI z = true by unfold inI; rw [decide_eq_true (by omega), decide_eq_true (by omega)]; rfl)
      have HV := Lib.hid (show smV z = z by unfold smV; rw [HI.out]; rfl)
      have hm : decide ((n : Int) ≤ 9223372036854775807) = true := decide_eq_true (by omega)
      have hc : IntKind.i64.wrap (n : Int) = (n : Int) := IntWalk.i64_in _ ⟨by omega, by omega⟩
      have hc2 : IntKind.i64.wrap (-(n : Int)) = -(n : Int) := IntWalk.i64_in _ ⟨by omega, by omega⟩
      by_cases h : z < 0
      · have HZ := Lib.hid (show -(n : Int) = z by omega)
        rw [decide_eq_true h] at HS
        clear h hn
        go_enter Tryz.func16, Tryz.ntmps16
        go_wp2_with fail
        refine HS.out.mono ?_
        rintro e w1 ⟨rfl, h1⟩
        have B1 := Lib.hid h1
        clear h1
        go_wp2_with fail
        refine (HY.out _ h64).mono ?_
        rintro e w2 ⟨rfl, h2⟩
        have B2 := Lib.hid (B1.out.trans (h2.mono B1.out.size))
        clear h2
        go_wp2_with fail
        go_ret2
        exact ⟨by rw [HI.out, HV.out, ← HZ.out]; rfl, B2.out⟩
      · have HZ := Lib.hid (show (n : Int) = z by omega)
        rw [decide_eq_false h] at HS
        clear h hn
        go_enter Tryz.func16, Tryz.ntmps16
        go_wp2_with fail
        refine HS.out.mono ?_
        rintro e w1 ⟨rfl, h1⟩
        have B1 := Lib.hid h1
        clear h1
        go_wp2_with fail
        refine (HY.out _ h64).mono ?_
        rintro e w2 ⟨rfl, h2⟩
        have B2 := Lib.hid (B1.out.trans (h2.mono B1.out.size))
        clear h2
        go_wp2_with fail
        go_ret2
        exact ⟨by rw [HI.out, HV.out, ← HZ.out]; rfl, B2.out⟩
    · have hm : decide ((n : Int) ≤ 9223372036854775807) = false := decide_eq_false (by omega)
      by_cases h : z < 0
      · rw [decide_eq_true h] at HS
        by_cases he : n = 9223372036854775808
        · have HI := Lib.hid (show inI z = true by unfold inI; rw [decide_eq_true (by omega), decide_eq_true (by omega)]; rfl)
          have HV := Lib.hid (show smV z = -9223372036854775808 by unfold smV; rw [HI.out, if_pos rfl]; omega)
          have heq : ((n : Int) == 9223372036854775808) = true := by rw [beq_iff_eq]; omega
          clear h hn he
          go_enter Tryz.func16, Tryz.ntmps16
          go_wp2_with fail
          refine HS.out.mono ?_
          rintro e w1 ⟨rfl, h1⟩
          have B1 := Lib.hid h1
          clear h1
          go_wp2_with fail
          refine (HY.out _ h64).mono ?_
          rintro e w2 ⟨rfl, h2⟩
          have B2 := Lib.hid (B1.out.trans (h2.mono B1.out.size))
          clear h2
          go_wp2_with fail
          go_ret2
          exact ⟨by rw [HI.out, HV.out]; rfl, B2.out⟩
        · have HI := Lib.hid (show inI z = false by unfold inI; rw [decide_eq_false (by omega)]; rfl)
          have HV := Lib.hid (show smV z = 0 by unfold smV; rw [HI.out]; rfl)
          have heq : ((n : Int) == 9223372036854775808) = false := by rw [beq_eq_false_iff_ne]; omega
          clear h hn he
          go_enter Tryz.func16, Tryz.ntmps16
          go_wp2_with fail
          refine HS.out.mono ?_
          rintro e w1 ⟨rfl, h1⟩
          have B1 := Lib.hid h1
          clear h1
          go_wp2_with fail
          refine (HY.out _ h64).mono ?_
          rintro e w2 ⟨rfl, h2⟩
          have B2 := Lib.hid (B1.out.trans (h2.mono B1.out.size))
          clear h2
          go_wp2_with fail
          go_ret2
          exact ⟨by rw [HI.out, HV.out]; rfl, B2.out⟩
      · rw [decide_eq_false h] at HS
        have HI := Lib.hid (show inI z = false by unfold inI; rw [decide_eq_false (p := z ≤ 9223372036854775807) (by omega)]; simp)
        have HV := Lib.hid (show smV z = 0 by unfold smV; rw [HI.out]; rfl)
        by_cases he : n = 9223372036854775808
        · have heq : ((n : Int) == 9223372036854775808) = true := by rw [beq_iff_eq]; omega
          clear h hn he
          go_enter Tryz.func16, Tryz.ntmps16
          go_wp2_with fail
          refine HS.out.mono ?_
          rintro e w1 ⟨rfl, h1⟩
          have B1 := Lib.hid h1
          clear h1
          go_wp2_with fail
          refine (HY.out _ h64).mono ?_
          rintro e w2 ⟨rfl, h2⟩
          have B2 := Lib.hid (B1.out.trans (h2.mono B1.out.size))
          clear h2
          go_wp2_with fail
          go_ret2
          exact ⟨by rw [HI.out, HV.out]; rfl, B2.out⟩
        · have heq : ((n : Int) == 9223372036854775808) = false := by rw [beq_eq_false_iff_ne]; omega
          clear h hn he
          go_enter Tryz.func16, Tryz.ntmps16
          go_wp2_with fail
          refine HS.out.mono ?_
          rintro e w1 ⟨rfl, h1⟩
          have B1 := Lib.hid h1
          clear h1
          go_wp2_with fail
          refine (HY.out _ h64).mono ?_
          rintro e w2 ⟨rfl, h2⟩
          have B2 := Lib.hid (B1.out.trans (h2.mono B1.out.size))
          clear h2
          go_wp2_with fail
          go_ret2
          exact ⟨by rw [HI.out, HV.out]; rfl, B2.out⟩
  · have HI := Lib.hid (show inI z = false by
      unfold inI
      by_cases h : z < 0
      · rw [decide_eq_false (by omega)]; rfl
      · rw [decide_eq_false (p := z ≤ 9223372036854775807) (by omega)]; simp)
    have HV := Lib.hid (show smV z = 0 by unfold smV; rw [HI.out]; rfl)
    obtain ⟨b, hb⟩ : ∃ b, b = decide (z < 0) := ⟨_, rfl⟩
    rw [← hb] at HS
    clear hn hb
    go_enter Tryz.func16, Tryz.ntmps16
    go_wp2_with fail
    refine HS.out.mono ?_
    rintro e w1 ⟨rfl, h1⟩
    have B1 := Lib.hid h1
    clear h1
    go_wp2_with fail
    refine (HN.out _ h64 (HSTD.out.below B1.out)).mono ?_
    rintro e w2 ⟨rfl, h2⟩
    have B2 := Lib.hid (B1.out.trans (h2.mono B1.out.size))
    clear h2
    go_wp2_with fail
    go_ret2
    exact ⟨by rw [HI.out, HV.out]; rfl, B2.out⟩
end Go.Proofs.YtjebddpapbopnaaGreatDoor

namespace Go.Proofs.YtjebddpapbopnaaGreatDoor
open Go.RowKit

theorem itoa_zS (z : Int) : (⟨(Lib.itoa z).toArray⟩ : ByteArray) = zS z := by
  unfold zS Lib.itoa str
  by_cases h : z < 0
  · rw [if_pos h, if_pos h]
    apply ByteArray.ext
    rw [ByteArray.data_append]; simp
  · rw [if_neg h, if_neg h, show z.toNat = z.natAbs by omega]
set_option maxHeartbeats 400000 in
theorem ofW_any (z : Int) (w : World) (hs : Std w) (h1 : -9223372036854775808 ≤ z) (h2 : z ≤ 9223372036854775807) :
    Calls Tryz.prog 17 #[.int .i64 z] w fun e w' => e = .returned (.string (zS z)) ∧ Below w.heap.size w w' := by
  have hi := Tryz.strconv_Itoa z h1 h2 w hs.tab
  rw [itoa_zS] at hi
  have HI := Lib.hid hi
  clear hi hs
  go_enter Tryz.func17, Tryz.ntmps17
  go_wp2_with fail
  refine HI.out.mono ?_
  rintro e w3 ⟨rfl, k, os, hw3⟩
  have hb3 : Below w.heap.size w w3 := by rw [hw3]; exact Lib.below_grow _ _ (Nat.le_refl _) _ _
  have HB := Lib.hid hb3
  clear hw3 hb3
  go_wp2_with fail
  go_ret
  exact ⟨rfl, HB.out⟩
def fewB (z : Int) : Bool := decide (-1000000000000000000 < z) && decide (z < 1000000000000000000)
theorem few_size {z : Int} (h : fewB z = true) : (zS z).size ≤ 19 := by
  unfold fewB at h
  simp at h
  have hs : (str z.natAbs).size ≤ 18 := str_big (n := 18) (by omega) (by decide)
  by_cases hz : z < 0
  · rw [zS_neg hz, (negS z.natAbs).sz]; omega
  · rw [zS_pos hz]; omega
theorem few_in {z : Int} (h : fewB z = true) : inI z = true ∧ smV z = z := by
  have h' := h
  unfold fewB at h'
  simp at h'
  have hi : inI z = true := by unfold inI; rw [decide_eq_true (by omega), decide_eq_true (by omega)]; rfl
  exact ⟨hi, by unfold smV; rw [hi]; rfl⟩
theorem few_val (z : Int) : (inI z && decide (-1000000000000000000 < smV z) && decide (smV z < 1000000000000000000)) = fewB z := by
  cases hi : inI z with
  | true => rw [show smV z = z by unfold smV; rw [hi]; rfl]; rfl
  | false =>
    cases hf : fewB z with
    | false => rfl
    | true => rw [(few_in hf).1] at hi; cases hi
set_option maxHeartbeats 1600000 in
theorem few_any (z : Int) (w : World) (hs : Std w) (hz : (str z.natAbs).size ≤ 1000000) :
    Calls Tryz.prog 70 #[.string (zS z)] w fun e w' => (∃ v : Int, e = .returned (.tuple #[.int .i64 v, .bool (fewB z)]) ∧ (fewB z = true → v = z)) ∧ Below w.heap.size w w' := by
  have HS := Lib.hid (smallW_any z w hs hz)
  have HF := Lib.hid (few_val z)
  have HV := Lib.hid (show fewB z = true → smV z = z from fun h => (few_in h).2)
  have hsz : ¬ (zS z).size ≤ 19 → fewB z = false := fun h => by
    cases hf : fewB z with
    | false => rfl
    | true => exact absurd (few_size hf) h
  have hlim := (zF z hz).lim
  obtain ⟨s, hs2⟩ : ∃ s, s = zS z := ⟨_, rfl⟩
  rw [← hs2] at HS hsz hlim ⊢
  obtain ⟨F, hF⟩ : ∃ F, F = fewB z := ⟨_, rfl⟩
  rw [← hF] at HF HV hsz ⊢
  obtain ⟨V, hV⟩ : ∃ V, V = smV z := ⟨_, rfl⟩
  rw [← hV] at HS HF HV
  obtain ⟨I, hI⟩ : ∃ I, I = inI z := ⟨_, rfl⟩
  rw [← hI] at HS HF
  clear hs2 hF hV hI hs hz
  by_cases h19 : s.size ≤ 19
  · have hl : decide ((19 : Int) < s.size) = false := decide_eq_false (by omega)
    clear hsz
    cases I
    · have HF2 := Lib.hid (show F = false by have := HF.out; simpa using this.symm)
      clear HF
      go_enter Tryz.func70, Tryz.ntmps70
      go_wp2_with fail
      refine HS.out.mono ?_
      rintro e w1 ⟨rfl, h1⟩
      have B1 := Lib.hid h1
      clear h1
      go_wp2_with fail
      go_ret2
      exact ⟨⟨V, by rw [HF2.out]; rfl, HV.out⟩, B1.out⟩
    · by_cases ha : -1000000000000000000 < V
      · by_cases hb : V < 1000000000000000000
        · have HF2 := Lib.hid (show F = true by have := HF.out; rw [decide_eq_true ha, decide_eq_true hb] at this; exact this.symm)
          clear HF
          go_enter Tryz.func70, Tryz.ntmps70
          go_wp2_with fail
          refine HS.out.mono ?_
          rintro e w1 ⟨rfl, h1⟩
          have B1 := Lib.hid h1
          clear h1
          go_wp2_with fail
          go_ret2
          exact ⟨⟨V, by rw [HF2.out]; rfl, HV.out⟩, B1.out⟩
        · have HF2 := Lib.hid (show F = false by have := HF.out; rw [decide_eq_false hb] at this; simpa using this.symm)
          clear HF
          go_enter Tryz.func70, Tryz.ntmps70
          go_wp2_with fail
          refine HS.out.mono ?_
          rintro e w1 ⟨rfl, h1⟩
          have B1 := Lib.hid h1
          clear h1
          go_wp2_with fail
          go_ret2
          exact ⟨⟨V, by rw [HF2.out]; show Ending.returned (.tuple #[.int .i64 V, .bool (decide (V < 1000000000000000000))]) = _; rw [decide_eq_false (by omega)], HV.out⟩, B1.out⟩
      · have HF2 := Lib.hid (show F = false by have := HF.out; rw [decide_eq_false ha] at this; simpa using this.symm)
        clear HF
        go_enter Tryz.func70, Tryz.ntmps70
        go_wp2_with fail
        refine HS.out.mono ?_
        rintro e w1 ⟨rfl, h1⟩
        have B1 := Lib.hid h1
        clear h1
        go_wp2_with fail
        go_ret2
        exact ⟨⟨V, by rw [HF2.out]; rfl, HV.out⟩, B1.out⟩
  · have HF2 := Lib.hid (hsz h19)
    have hl : decide ((19 : Int) < s.size) = true := decide_eq_true (by omega)
    clear hsz HF
    go_enter Tryz.func70, Tryz.ntmps70
    go_wp2_with fail
    go_ret2
    exact ⟨⟨0, by rw [HF2.out]; rfl, fun h => by rw [HF2.out] at h; cases h⟩, Below.refl _ _⟩
set_option maxHeartbeats 800000 in
theorem both_any (x y : Int) (w : World) (hs : Std w) (hx : (str x.natAbs).size ≤ 1000000) (hy : (str y.natAbs).size ≤ 1000000) :
    Calls Tryz.prog 67 #[.string (zS x), .string (zS y)] w fun e w' => (∃ u v : Int, e = .returned (.tuple #[.int .i64 u, .int .i64 v, .bool (fewB x && fewB y)]) ∧ ((fewB x && fewB y) = true → u = x ∧ v = y)) ∧ Below w.heap.size w w' := by
  have HX := Lib.hid (few_any x w hs hx)
  have HY := Lib.hid (fun wx hw => few_any y wx hw hy)
  have HS := Lib.hid hs
  obtain ⟨s, hs2⟩ : ∃ s, s = zS x := ⟨_, rfl⟩
  obtain ⟨t, ht⟩ : ∃ t, t = zS y := ⟨_, rfl⟩
  rw [← hs2] at HX ⊢
  rw [← ht] at HY ⊢
  obtain ⟨A, hA⟩ : ∃ F, F = fewB x := ⟨_, rfl⟩
  obtain ⟨B, hB⟩ : ∃ F, F = fewB y := ⟨_, rfl⟩
  rw [← hA] at HX ⊢
  rw [← hB] at HY ⊢
  clear hs2 ht hA hB hs hx hy
  cases A
  · clear HY
    go_enter Tryz.func67, Tryz.ntmps67
    go_wp2_with fail
    refine HX.out.mono ?_
    rintro e w1 ⟨⟨v, rfl, hv⟩, h1⟩
    have B1 := Lib.hid h1
    clear h1 hv
    go_wp2_with fail
    go_ret3
    exact ⟨⟨0, 0, rfl, fun h => by cases h⟩, B1.out⟩
  · go_enter Tryz.func67, Tryz.ntmps67
    go_wp2_with fail
    refine HX.out.mono ?_
    rintro e w1 ⟨⟨v, rfl, hv⟩, h1⟩
    have B1 := Lib.hid h1
    have V1 := Lib.hid (hv trivial)
    clear h1 hv
    go_wp2_with fail
    refine (HY.out _ (HS.out.below B1.out)).mono ?_
    rintro e w2 ⟨⟨v2, rfl, hv2⟩, h2⟩
    have B2 := Lib.hid (B1.out.trans (h2.mono B1.out.size))
    have V2 := Lib.hid hv2
    clear h2 hv2
    go_wp2_with fail
    go_ret3
    exact ⟨⟨v, v2, rfl, fun h => ⟨V1.out, V2.out (by simpa using h)⟩⟩, B2.out⟩
end Go.Proofs.YtjebddpapbopnaaGreatDoor

namespace Go.Proofs.YtjebddpapbopnaaGreatDoor
open Go.RowKit

theorem zsz_add {a b k : Nat} (ha : (str a).size ≤ k) (hb : (str b).size ≤ k) (hk : 0 < k) : (str (a + b)).size ≤ k + 1 := by
  refine str_big ?_ (by omega)
  have h1 := lt_of_size ha
  have h2 := lt_of_size hb
  rw [Nat.pow_succ]; omega
theorem zsz_le {a b k : Nat} (ha : (str a).size ≤ k) (h : b ≤ a) : (str b).size ≤ k := Nat.le_trans (size_mono h) ha
theorem if_neg_val (b : Bool) (n : Nat) (z : Int) (h : z = if b = true then -(n : Int) else (n : Int)) : zS (if b = true then -(n : Int) else (n : Int)) = zS z := by rw [h]
set_option maxHeartbeats 1600000 in
set_option maxRecDepth 100000 in
theorem addW_any (x y : Int) (w : World) (hs : Std w) (hx : (str x.natAbs).size ≤ 400000) (hy : (str y.natAbs).size ≤ 400000) :
    Calls Tryz.prog 33 #[.string (zS x), .string (zS y)] w fun e w' => e = .returned (.string (zS (x + y))) ∧ Below w.heap.size w w' := by
  have HB := Lib.hid (both_any x y w hs (by omega) (by omega))
  have HSX := Lib.hid (fun wx => split_any x wx (by omega))
  have HSY := Lib.hid (fun wx => split_any y wx (by omega))
  have HS := Lib.hid hs
  cases hf : (fewB x && fewB y) with
  | true =>
    rw [hf] at HB
    have hb : -1000000000000000000 < x ∧ x < 1000000000000000000 ∧ -1000000000000000000 < y ∧ y < 1000000000000000000 := by
      unfold fewB at hf; simp at hf; omega
    have HO := Lib.hid (fun wx hw => ofW_any (x + y) wx hw (by omega) (by omega))
    have hw := IntWalk.i64_in (x + y) ⟨by omega, by omega⟩
    obtain ⟨s, hs2⟩ : ∃ s, s = zS x := ⟨_, rfl⟩
    obtain ⟨t, ht⟩ : ∃ t, t = zS y := ⟨_, rfl⟩
    rw [← hs2] at HB ⊢
    rw [← ht] at HB ⊢
    clear hs2 ht hs hx hy HSX HSY hf
    go_enter Tryz.func33, Tryz.ntmps33
    go_wp2_with fail
    refine HB.out.mono ?_
    rintro e w1 ⟨⟨u, v, rfl, huv⟩, h1⟩
    obtain ⟨rfl, rfl⟩ := huv trivial
    have B1 := Lib.hid h1
    clear h1 huv
    go_wp2_with fail
    refine (HO.out _ (HS.out.below B1.out)).mono ?_
    rintro e w2 ⟨rfl, h2⟩
    have B2 := Lib.hid (B1.out.trans (h2.mono B1.out.size))
    clear h2
    go_wp2_with fail
    go_ret
    exact ⟨rfl, B2.out⟩
  | false =>
    rw [hf] at HB
    obtain ⟨a, ha⟩ : ∃ a : Nat, a = x.natAbs := ⟨_, rfl⟩
    obtain ⟨b, hb⟩ : ∃ b : Nat, b = y.natAbs := ⟨_, rfl⟩
    rw [← ha] at hx HSX
    rw [← hb] at hy HSY
    have HCM := Lib.hid (fun wx => compare_any a b wx)
    obtain ⟨s, hs2⟩ : ∃ s, s = zS x := ⟨_, rfl⟩
    obtain ⟨t, ht⟩ : ∃ t, t = zS y := ⟨_, rfl⟩
    by_cases hsame : (x < 0 ↔ y < 0)
    · have hsz := zsz_add hx hy (by decide)
      have HAD := Lib.hid (fun wx hw => addN_any a b wx hw (by omega) (by omega))
      have hsg := fun wx => signed_any (decide (x < 0)) (a + b) wx (by omega)
      have hv : x + y = if decide (x < 0) = true then -((a + b : Nat) : Int) else ((a + b : Nat) : Int) := by
        by_cases h : x < 0
        · rw [decide_eq_true h, if_pos rfl]; have := hsame.1 h; push_cast; omega
        · rw [decide_eq_false h, if_neg (by decide)]; have : ¬ y < 0 := fun h2 => h (hsame.2 h2); push_cast; omega
      simp only [← hv] at hsg
      have he : decide (x < 0) = decide (y < 0) := by rw [Bool.eq_iff_iff, decide_eq_true_iff, decide_eq_true_iff]; exact hsame
      rw [← he] at HSY
      obtain ⟨N, hN⟩ : ∃ N, N = decide (x < 0) := ⟨_, rfl⟩
      rw [← hN] at HSX HSY hsg
      rw [← hs2] at HB HSX ⊢
      rw [← ht] at HB HSY ⊢
      obtain ⟨p, hp⟩ : ∃ p, p = str a := ⟨_, rfl⟩
      obtain ⟨q, hq⟩ : ∃ q, q = str b := ⟨_, rfl⟩
      obtain ⟨r, hr⟩ : ∃ r, r = str (a + b) := ⟨_, rfl⟩
      rw [← hp] at HSX HAD HCM
      rw [← hq] at HSY HAD HCM
      rw [← hr] at HAD hsg
      have HSG := Lib.hid hsg
      obtain ⟨Z, hZ⟩ : ∃ Z, Z = zS (x + y) := ⟨_, rfl⟩
      rw [← hZ] at HSG ⊢
      clear hs hx hy hf ha hb hs2 ht hsame hsz hv he hN hp hq hr hsg hZ HCM
      cases N
      all_goals
        go_enter Tryz.func33, Tryz.ntmps33
        go_wp2_with fail
        refine HB.out.mono ?_
        rintro e w1 ⟨⟨u, v, rfl, huv⟩, h1⟩
        have B1 := Lib.hid h1
        clear h1 huv
        go_wp2_with fail
        refine (HSX.out _).mono ?_
        rintro e w2 ⟨rfl, h2⟩
        have B2 := Lib.hid (B1.out.trans (h2.mono B1.out.size))
        clear h2
        go_wp2_with fail
        refine (HSY.out _).mono ?_
        rintro e w3 ⟨rfl, h3⟩
        have B3 := Lib.hid (B2.out.trans (h3.mono B2.out.size))
        clear h3
        go_wp2_with fail
        refine (HAD.out _ (HS.out.below B3.out)).mono ?_
        rintro e w4 ⟨rfl, h4⟩
        have B4 := Lib.hid (B3.out.trans (h4.mono B3.out.size))
        clear h4
        go_wp2_with fail
        refine (HSG.out _).mono ?_
        rintro e w5 ⟨rfl, rfl⟩
        go_wp2_with fail
        go_ret
        exact ⟨rfl, B4.out⟩
    · have hne : decide (x < 0) = !decide (y < 0) := by
        by_cases h : x < 0
        · have : ¬ y < 0 := fun h2 => hsame ⟨fun _ => h2, fun _ => h⟩
          rw [decide_eq_true h, decide_eq_false this]; rfl
        · have : y < 0 := by
            apply Classical.byContradiction; intro h2; exact hsame ⟨fun h3 => absurd h3 h, fun h3 => absurd h3 h2⟩
          rw [decide_eq_false h, decide_eq_true this]; rfl
      obtain ⟨M, hM⟩ : ∃ M, M = decide (y < 0) := ⟨_, rfl⟩
      rw [← hM] at hne HSY
      rw [hne] at HSX
      by_cases hlt : a < b
      · rw [cmp_lt hlt] at HCM
        have hsz := zsz_le hy (Nat.sub_le b a)
        have HSB := Lib.hid (fun wx hw => subN_yes b a wx hw (by omega) (by omega))
        have hsg := fun wx => signed_any M (b - a) wx (by omega)
        have hv : x + y = if M = true then -((b - a : Nat) : Int) else ((b - a : Nat) : Int) := by
          by_cases h : y < 0
          · rw [hM, decide_eq_true h, if_pos rfl]; rw [hM, decide_eq_true h] at hne; have h2 : ¬ x < 0 := by simpa using hne
            omega
          · rw [hM, decide_eq_false h, if_neg (by decide)]; rw [hM, decide_eq_false h] at hne; have h2 : x < 0 := by simpa using hne
            omega
        simp only [← hv] at hsg
        rw [← hs2] at HB HSX ⊢
        rw [← ht] at HB HSY ⊢
        obtain ⟨p, hp⟩ : ∃ p, p = str a := ⟨_, rfl⟩
        obtain ⟨q, hq⟩ : ∃ q, q = str b := ⟨_, rfl⟩
        obtain ⟨r, hr⟩ : ∃ r, r = str (b - a) := ⟨_, rfl⟩
        rw [← hp] at HSX HSB HCM
        rw [← hq] at HSY HSB HCM
        rw [← hr] at HSB hsg
        have HSG := Lib.hid hsg
        obtain ⟨Z, hZ⟩ : ∃ Z, Z = zS (x + y) := ⟨_, rfl⟩
        rw [← hZ] at HSG ⊢
        clear hs hx hy hf ha hb hs2 ht hsame hsz hv hne hM hp hq hr hsg hZ hlt
        cases M
        all_goals
          go_enter Tryz.func33, Tryz.ntmps33
          go_wp2_with fail
          refine HB.out.mono ?_
          rintro e w1 ⟨⟨u, v, rfl, huv⟩, h1⟩
          have B1 := Lib.hid h1
          clear h1 huv
          go_wp2_with fail
          refine (HSX.out _).mono ?_
          rintro e w2 ⟨rfl, h2⟩
          have B2 := Lib.hid (B1.out.trans (h2.mono B1.out.size))
          clear h2
          go_wp2_with fail
          refine (HSY.out _).mono ?_
          rintro e w3 ⟨rfl, h3⟩
          have B3 := Lib.hid (B2.out.trans (h3.mono B2.out.size))
          clear h3
          go_wp2_with fail
          refine (HCM.out _).mono ?_
          rintro e w4 ⟨rfl, rfl⟩
          go_wp2_with fail
          refine (HSB.out _ (HS.out.below B3.out)).mono ?_
          rintro e w4 ⟨rfl, h4⟩
          have B4 := Lib.hid (B3.out.trans (h4.mono B3.out.size))
          clear h4
          go_wp2_with fail
          refine (HSG.out _).mono ?_
          rintro e w5 ⟨rfl, rfl⟩
          go_wp2_with fail
          go_ret
          exact ⟨rfl, B4.out⟩
      · have hsz := zsz_le hx (Nat.sub_le a b)
        have hcn : decide (cmpN a b < 0) = false := by
          rcases cmpN_ways a b with ⟨h, e⟩ | ⟨h, e⟩ | ⟨h, e⟩
          · omega
          · rw [e]; rfl
          · rw [e]; rfl
        obtain ⟨C, hC⟩ : ∃ C, C = cmpN a b := ⟨_, rfl⟩
        rw [← hC] at HCM hcn
        have HSB := Lib.hid (fun wx hw => subN_yes a b wx hw (by omega) (by omega))
        have hsg := fun wx => signed_any (!M) (a - b) wx (by omega)
        have hv : x + y = if (!M) = true then -((a - b : Nat) : Int) else ((a - b : Nat) : Int) := by
          by_cases h : y < 0
          · rw [hM, decide_eq_true h]; rw [hM, decide_eq_true h] at hne; have h2 : ¬ x < 0 := by simpa using hne
            simp; omega
          · rw [hM, decide_eq_false h]; rw [hM, decide_eq_false h] at hne; have h2 : x < 0 := by simpa using hne
            simp; omega
        simp only [← hv] at hsg
        rw [← hs2] at HB HSX ⊢
        rw [← ht] at HB HSY ⊢
        obtain ⟨p, hp⟩ : ∃ p, p = str a := ⟨_, rfl⟩
        obtain ⟨q, hq⟩ : ∃ q, q = str b := ⟨_, rfl⟩
        obtain ⟨r, hr⟩ : ∃ r, r = str (a - b) := ⟨_, rfl⟩
        rw [← hp] at HSX HSB HCM
        rw [← hq] at HSY HSB HCM
        rw [← hr] at HSB hsg
        have HSG := Lib.hid hsg
        obtain ⟨Z, hZ⟩ : ∃ Z, Z = zS (x + y) := ⟨_, rfl⟩
        rw [← hZ] at HSG ⊢
        clear hs hx hy hf ha hb hs2 ht hsame hsz hv hne hM hp hq hr hsg hZ hlt hC
        cases M
        all_goals
          go_enter Tryz.func33, Tryz.ntmps33
          go_wp2_with fail
          refine HB.out.mono ?_
          rintro e w1 ⟨⟨u, v, rfl, huv⟩, h1⟩
          have B1 := Lib.hid h1
          clear h1 huv
          go_wp2_with fail
          refine (HSX.out _).mono ?_
          rintro e w2 ⟨rfl, h2⟩
          have B2 := Lib.hid (B1.out.trans (h2.mono B1.out.size))
          clear h2
          go_wp2_with fail
          refine (HSY.out _).mono ?_
          rintro e w3 ⟨rfl, h3⟩
          have B3 := Lib.hid (B2.out.trans (h3.mono B2.out.size))
          clear h3
          go_wp2_with fail
          refine (HCM.out _).mono ?_
          rintro e w4 ⟨rfl, rfl⟩
          go_wp2_with fail
          refine (HSB.out _ (HS.out.below B3.out)).mono ?_
          rintro e w4 ⟨rfl, h4⟩
          have B4 := Lib.hid (B3.out.trans (h4.mono B3.out.size))
          clear h4
          go_wp2_with fail
          refine (HSG.out _).mono ?_
          rintro e w5 ⟨rfl, rfl⟩
          go_wp2_with fail
          go_ret
          exact ⟨rfl, B4.out⟩
set_option maxHeartbeats 400000 in
theorem subW_any (x y : Int) (w : World) (hs : Std w) (hx : (str x.natAbs).size ≤ 400000) (hy : (str y.natAbs).size ≤ 400000) :
    Calls Tryz.prog 34 #[.string (zS x), .string (zS y)] w fun e w' => e = .returned (.string (zS (x - y))) ∧ Below w.heap.size w w' := by
  have HN := Lib.hid (neg_any y w (by omega))
  have hadd := fun wx hw => addW_any x (-y) wx hw hx (by rw [show (-y).natAbs = y.natAbs by omega]; exact hy)
  simp only [show x + -y = x - y by omega] at hadd
  have HA := Lib.hid hadd
  have HS := Lib.hid hs
  obtain ⟨s, hs2⟩ : ∃ s, s = zS x := ⟨_, rfl⟩
  obtain ⟨t, ht⟩ : ∃ t, t = zS y := ⟨_, rfl⟩
  obtain ⟨u, hu⟩ : ∃ t, t = zS (-y) := ⟨_, rfl⟩
  obtain ⟨r, hr⟩ : ∃ t, t = zS (x - y) := ⟨_, rfl⟩
  rw [← hu] at HN HA
  rw [← ht] at HN ⊢
  rw [← hs2] at HA ⊢
  rw [← hr] at HA ⊢
  clear hs hs2 ht hu hr hx hy hadd
  go_enter Tryz.func34, Tryz.ntmps34
  go_wp2_with fail
  refine HN.out.mono ?_
  rintro e w1 ⟨rfl, h1⟩
  have B1 := Lib.hid h1
  clear h1
  go_wp2_with fail
  refine (HA.out _ (HS.out.below B1.out)).mono ?_
  rintro e w2 ⟨rfl, h2⟩
  have B2 := Lib.hid (B1.out.trans (h2.mono B1.out.size))
  clear h2
  go_wp2_with fail
  go_ret
  exact ⟨rfl, B2.out⟩
end Go.Proofs.YtjebddpapbopnaaGreatDoor

namespace Go.Proofs.YtjebddpapbopnaaGreatDoor
open Go.RowKit

set_option maxHeartbeats 400000 in
theorem magW_any (z : Int) (w : World) (h1 : -1000000000000000000 < z) (h2 : z < 1000000000000000000) :
    Calls Tryz.prog 71 #[.int .i64 z] w fun e w' => e = .returned (.int .u64 (z.natAbs : Int)) ∧ w = w' := by
  have hm : max z (-z) = (z.natAbs : Int) := by omega
  have hw := IntWalk.i64_in (-z) ⟨by omega, by omega⟩
  have hu : IntKind.u64.wrap (z.natAbs : Int) = (z.natAbs : Int) := by rw [IntKind.wrap_u64]; omega
  obtain ⟨n, hn⟩ : ∃ n : Nat, n = z.natAbs := ⟨_, rfl⟩
  rw [← hn] at hm hu ⊢
  clear hn
  go_enter Tryz.func71, Tryz.ntmps71
  go_wp2_with fail
  go_ret
  exact ⟨rfl, rfl⟩
theorem mul_abs (x y : Int) : (x * y).natAbs = x.natAbs * y.natAbs := Int.natAbs_mul x y
def fitB (x y : Int) : Bool := decide (x.natAbs * y.natAbs ≤ 9223372036854775807)
set_option maxHeartbeats 1600000 in
theorem timesW_any (x y : Int) (w : World) (h1 : -1000000000000000000 < x) (h2 : x < 1000000000000000000) (h3 : -1000000000000000000 < y) (h4 : y < 1000000000000000000) :
    Calls Tryz.prog 72 #[.int .i64 x, .int .i64 y] w fun e w' => (∃ v : Int, e = .returned (.tuple #[.int .i64 v, .bool (fitB x y)]) ∧ (fitB x y = true → v = x * y)) ∧ w = w' := by
  have HX := Lib.hid (fun wx => magW_any x wx h1 h2)
  have HY := Lib.hid (fun wx => magW_any y wx h3 h4)
  obtain ⟨a, ha⟩ : ∃ a : Nat, a = x.natAbs := ⟨_, rfl⟩
  obtain ⟨b, hb⟩ : ∃ b : Nat, b = y.natAbs := ⟨_, rfl⟩
  have hxy := mul_abs x y
  rw [← ha] at HX hxy
  rw [← hb] at HY hxy
  have HM := Lib.hid (fun wx => Tryz.bits_Mul64 a b (by omega) (by omega) wx)
  have hf : fitB x y = decide (a * b ≤ 9223372036854775807) := by unfold fitB; rw [ha, hb]
  obtain ⟨P, hP⟩ : ∃ P, P = a * b := ⟨_, rfl⟩
  rw [← hP] at HM hxy hf
  obtain ⟨V, hV⟩ : ∃ V, V = IntKind.i64.wrap (x * y) := ⟨_, rfl⟩
  have HV := Lib.hid (show P ≤ 9223372036854775807 → V = x * y from fun h => by rw [hV]; exact IntWalk.i64_in _ ⟨by omega, by omega⟩)
  obtain ⟨F, hF⟩ : ∃ F, F = fitB x y := ⟨_, rfl⟩
  rw [← hF] at hf ⊢
  obtain ⟨H, hH⟩ : ∃ H : Nat, H = P / 18446744073709551616 := ⟨_, rfl⟩
  obtain ⟨L, hL⟩ : ∃ L : Nat, L = P % 18446744073709551616 := ⟨_, rfl⟩
  rw [← hH, ← hL] at HM
  have hVs := hV.symm
  by_cases hz : H = 0
  · have hzb : ((H : Int) == 0) = true := by rw [beq_iff_eq]; omega
    by_cases hl : L ≤ 9223372036854775807
    · have hlb : decide ((L : Int) ≤ 9223372036854775807) = true := decide_eq_true (by omega)
      have HF := Lib.hid (show F = true by rw [hf]; exact decide_eq_true (by omega))
      have HV2 := Lib.hid (HV.out (by omega))
      clear hz hl hf hH hL hP hF hxy ha hb hV HV
      go_enter Tryz.func72, Tryz.ntmps72
      go_wp2_with fail
      refine (HX.out _).mono ?_
      rintro e w1 ⟨rfl, rfl⟩
      go_wp2_with fail
      refine (HY.out _).mono ?_
      rintro e w1 ⟨rfl, rfl⟩
      go_wp2_with fail
      refine (HM.out _).mono ?_
      rintro e w1 ⟨rfl, hw1⟩
      obtain rfl := hw1
      go_wp2_with fail
      go_ret2
      exact ⟨⟨V, by rw [HF.out]; rfl, fun _ => HV2.out⟩, rfl⟩
    · have hlb : decide ((L : Int) ≤ 9223372036854775807) = false := decide_eq_false (by omega)
      have HF := Lib.hid (show F = false by rw [hf]; exact decide_eq_false (by omega))
      clear hz hl hf hH hL hP hF hxy ha hb hV HV
      go_enter Tryz.func72, Tryz.ntmps72
      go_wp2_with fail
      refine (HX.out _).mono ?_
      rintro e w1 ⟨rfl, rfl⟩
      go_wp2_with fail
      refine (HY.out _).mono ?_
      rintro e w1 ⟨rfl, rfl⟩
      go_wp2_with fail
      refine (HM.out _).mono ?_
      rintro e w1 ⟨rfl, hw1⟩
      obtain rfl := hw1
      go_wp2_with fail
      go_ret2
      exact ⟨⟨V, by rw [HF.out]; rfl, fun h => by rw [HF.out] at h; cases h⟩, rfl⟩
  · have hzb : ((H : Int) == 0) = false := by rw [beq_eq_false_iff_ne]; omega
    have HF := Lib.hid (show F = false by rw [hf]; exact decide_eq_false (by omega))
    clear hz hf hH hL hP hF hxy ha hb hV HV
    go_enter Tryz.func72, Tryz.ntmps72
    go_wp2_with fail
    refine (HX.out _).mono ?_
    rintro e w1 ⟨rfl, rfl⟩
    go_wp2_with fail
    refine (HY.out _).mono ?_
    rintro e w1 ⟨rfl, rfl⟩
    go_wp2_with fail
    refine (HM.out _).mono ?_
    rintro e w1 ⟨rfl, hw1⟩
    obtain rfl := hw1
    go_wp2_with fail
    go_ret2
    exact ⟨⟨V, by rw [HF.out]; rfl, fun h => by rw [HF.out] at h; cases h⟩, rfl⟩

theorem zsz_mul {a b n : Nat} (ha : (str a).size ≤ n) (hb : (str b).size ≤ n) (hn : 0 < n) : (str (a * b)).size ≤ n + n := by
  refine str_big ?_ (by omega)
  have h1 := lt_of_size ha
  have h2 := lt_of_size hb
  rw [Nat.pow_add]
  exact Nat.mul_lt_mul_of_lt_of_le h1 (Nat.le_of_lt h2) (Nat.pow_pos (by decide))
set_option maxHeartbeats 1600000 in
set_option maxRecDepth 100000 in
theorem mulW_any (x y : Int) (w : World) (hs : Std w) (hx : (str x.natAbs).size ≤ 400000) (hy : (str y.natAbs).size ≤ 400000) :
    Calls Tryz.prog 37 #[.string (zS x), .string (zS y)] w fun e w' => e = .returned (.string (zS (x * y))) ∧ Below w.heap.size w w' := by
  have HB := Lib.hid (both_any x y w hs (by omega) (by omega))
  have HSX := Lib.hid (fun wx => split_any x wx (by omega))
  have HSY := Lib.hid (fun wx => split_any y wx (by omega))
  have HS := Lib.hid hs
  have hsz := zsz_mul hx hy (by decide)
  have HMU := Lib.hid (fun wx hw => mul_any x.natAbs y.natAbs wx hw (by omega) (by omega))
  have hsg := fun wx => signed_any (decide (x < 0) != decide (y < 0)) (x.natAbs * y.natAbs) wx (by omega)
  have hv : x * y = if (decide (x < 0) != decide (y < 0)) = true then -((x.natAbs * y.natAbs : Nat) : Int) else ((x.natAbs * y.natAbs : Nat) : Int) := by
    have h0 := mul_abs x y
    rw [← h0]
    by_cases h1 : x < 0
    · by_cases h2 : y < 0
      · rw [decide_eq_true h1, decide_eq_true h2, if_neg (by decide)]
        have := Int.mul_pos_of_neg_of_neg h1 h2; omega
      · rw [decide_eq_true h1, decide_eq_false h2, if_pos (by decide)]
        have : x * y ≤ 0 := Int.mul_nonpos_of_nonpos_of_nonneg (by omega) (by omega)
        omega
    · by_cases h2 : y < 0
      · rw [decide_eq_false h1, decide_eq_true h2, if_pos (by decide)]
        have : x * y ≤ 0 := Int.mul_nonpos_of_nonneg_of_nonpos (by omega) (by omega)
        omega
      · rw [decide_eq_false h1, decide_eq_false h2, if_neg (by decide)]
        have : 0 ≤ x * y := Int.mul_nonneg (by omega) (by omega)
        omega
  simp only [← hv] at hsg
  have HT : Hid ((fewB x && fewB y) = true → ∀ wx, Calls Tryz.prog 72 #[.int .i64 x, .int .i64 y] wx fun e w' => (∃ v : Int, e = .returned (.tuple #[.int .i64 v, .bool (fitB x y)]) ∧ (fitB x y = true → v = x * y)) ∧ wx = w') := Lib.hid (fun h wx => by
    unfold fewB at h; simp at h
    exact timesW_any x y wx (by omega) (by omega) (by omega) (by omega))
  have HO : Hid (fitB x y = true → ∀ wx, Std wx → Calls Tryz.prog 17 #[.int .i64 (x * y)] wx fun e w' => e = .returned (.string (zS (x * y))) ∧ Below wx.heap.size wx w') := Lib.hid (fun h wx hw => by
    unfold fitB at h; simp at h
    have h0 := mul_abs x y
    exact ofW_any (x * y) wx hw (by omega) (by omega))
  obtain ⟨N, hN⟩ : ∃ N, N = decide (x < 0) := ⟨_, rfl⟩
  obtain ⟨M, hM⟩ : ∃ N, N = decide (y < 0) := ⟨_, rfl⟩
  rw [← hN] at HSX hsg
  rw [← hM] at HSY hsg
  obtain ⟨s, hs2⟩ : ∃ s, s = zS x := ⟨_, rfl⟩
  obtain ⟨t, ht⟩ : ∃ t, t = zS y := ⟨_, rfl⟩
  obtain ⟨p, hp⟩ : ∃ p, p = str x.natAbs := ⟨_, rfl⟩
  obtain ⟨q, hq⟩ : ∃ q, q = str y.natAbs := ⟨_, rfl⟩
  obtain ⟨r, hr⟩ : ∃ r, r = str (x.natAbs * y.natAbs) := ⟨_, rfl⟩
  obtain ⟨Z, hZ⟩ : ∃ Z, Z = zS (x * y) := ⟨_, rfl⟩
  obtain ⟨F, hF⟩ : ∃ F, F = (fewB x && fewB y) := ⟨_, rfl⟩
  obtain ⟨G, hG⟩ : ∃ G, G = fitB x y := ⟨_, rfl⟩
  rw [← hs2] at HB HSX ⊢
  rw [← ht] at HB HSY ⊢
  rw [← hp] at HSX HMU
  rw [← hq] at HSY HMU
  rw [← hr] at HMU hsg
  rw [← hZ] at hsg HO ⊢
  rw [← hF] at HB HT
  rw [← hG] at HT HO
  have HSG := Lib.hid hsg
  clear hs hx hy hsz hsg hv hN hM hs2 ht hp hq hr hZ hF hG
  cases F
  · clear HT HO
    cases N
    all_goals cases M
    all_goals
      go_enter Tryz.func37, Tryz.ntmps37
      go_wp2_with fail
      refine HB.out.mono ?_
      rintro e w1 ⟨⟨u, v, rfl, huv⟩, h1⟩
      have B1 := Lib.hid h1
      clear h1 huv
      go_wp2_with fail
      refine (HSX.out _).mono ?_
      rintro e w2 ⟨rfl, h2⟩
      have B2 := Lib.hid (B1.out.trans (h2.mono B1.out.size))
      clear h2
      go_wp2_with fail
      refine (HSY.out _).mono ?_
      rintro e w3 ⟨rfl, h3⟩
      have B3 := Lib.hid (B2.out.trans (h3.mono B2.out.size))
      clear h3
      go_wp2_with fail
      refine (HMU.out _ (HS.out.below B3.out)).mono ?_
      rintro e w4 ⟨rfl, h4⟩
      have B4 := Lib.hid (B3.out.trans (h4.mono B3.out.size))
      clear h4
      go_wp2_with fail
      refine (HSG.out _).mono ?_
      rintro e w5 ⟨rfl, rfl⟩
      go_wp2_with fail
      go_ret
      exact ⟨rfl, B4.out⟩
  · have HT2 := Lib.hid (HT.out rfl)
    clear HT
    cases G
    · clear HO
      cases N
      all_goals cases M
      all_goals
        go_enter Tryz.func37, Tryz.ntmps37
        go_wp2_with fail
        refine HB.out.mono ?_
        rintro e w1 ⟨⟨u, v, rfl, huv⟩, h1⟩
        obtain ⟨rfl, rfl⟩ := huv trivial
        have B1 := Lib.hid h1
        clear h1 huv
        go_wp2_with fail
        refine (HT2.out _).mono ?_
        rintro e w1 ⟨⟨v2, rfl, hv2⟩, rfl⟩
        clear hv2
        go_wp2_with fail
        refine (HSX.out _).mono ?_
        rintro e w2 ⟨rfl, h2⟩
        have B2 := Lib.hid (B1.out.trans (h2.mono B1.out.size))
        clear h2
        go_wp2_with fail
        refine (HSY.out _).mono ?_
        rintro e w3 ⟨rfl, h3⟩
        have B3 := Lib.hid (B2.out.trans (h3.mono B2.out.size))
        clear h3
        go_wp2_with fail
        refine (HMU.out _ (HS.out.below B3.out)).mono ?_
        rintro e w4 ⟨rfl, h4⟩
        have B4 := Lib.hid (B3.out.trans (h4.mono B3.out.size))
        clear h4
        go_wp2_with fail
        refine (HSG.out _).mono ?_
        rintro e w5 ⟨rfl, rfl⟩
        go_wp2_with fail
        go_ret
        exact ⟨rfl, B4.out⟩
    · have HO2 := Lib.hid (HO.out rfl)
      clear HO
      go_enter Tryz.func37, Tryz.ntmps37
      go_wp2_with fail
      refine HB.out.mono ?_
      rintro e w1 ⟨⟨u, v, rfl, huv⟩, h1⟩
      obtain ⟨rfl, rfl⟩ := huv trivial
      have B1 := Lib.hid h1
      clear h1 huv
      go_wp2_with fail
      refine (HT2.out _).mono ?_
      rintro e w1 ⟨⟨v2, rfl, hv2⟩, rfl⟩
      obtain rfl := hv2 trivial
      clear hv2
      go_wp2_with fail
      refine (HO2.out _ (HS.out.below B1.out)).mono ?_
      rintro e w2 ⟨rfl, h2⟩
      have B2 := Lib.hid (B1.out.trans (h2.mono B1.out.size))
      clear h2
      go_wp2_with fail
      go_ret
      exact ⟨rfl, B2.out⟩
end Go.Proofs.YtjebddpapbopnaaGreatDoor

namespace Go.Proofs.YtjebddpapbopnaaGreatDoor
open Go.RowKit

set_option maxHeartbeats 800000 in
theorem negR_any (z : Int) (w : World) (hz : (str z.natAbs).size ≤ 1000000) :
    Calls Tryz.prog 29 #[.string (zS z)] w fun e w' => e = .returned (.string (zS (-z))) ∧ w = w' := by
  have hsg := fun wx => signR_any z wx hz
  have hlim := (zF z hz).lim
  rcases sgnI_ways z with ⟨h, e⟩ | ⟨h, e⟩ | ⟨h, e⟩
  · rw [e] at hsg
    have hn := negS z.natAbs
    have hr : zS (-z) = str z.natAbs := by rw [zS_pos (by omega), show (-z).natAbs = z.natAbs by omega]
    rw [hr]
    rw [zS_neg h] at hsg hlim ⊢
    obtain ⟨s, hs⟩ : ∃ s, s = ⟨#[45]⟩ ++ str z.natAbs := ⟨_, rfl⟩
    rw [← hs] at hn hsg hlim ⊢
    obtain ⟨h1, h0, h2, h3⟩ := hn
    have HX := Lib.hid h3
    have HD := Lib.hid hsg
    have h1' : 1 ≤ s.size := h0
    clear h1 h2 h3 hs hr hz h e hsg
    go_enter Tryz.func29, Tryz.ntmps29
    go_wp2_with fail
    refine (HD.out _).mono ?_
    rintro e w1 ⟨rfl, rfl⟩
    go_wp2_with fail
    go_ret
    exact ⟨by rw [← HX.out]; rfl, rfl⟩
  · subst h
    rw [show (-(0 : Int)) = 0 from rfl]
    obtain ⟨s, hs⟩ : ∃ s, s = zS 0 := ⟨_, rfl⟩
    rw [e] at hsg
    rw [← hs] at hsg ⊢
    have HD := Lib.hid hsg
    clear hs hz e hsg hlim
    go_enter Tryz.func29, Tryz.ntmps29
    go_wp2_with fail
    refine (HD.out _).mono ?_
    rintro e w1 ⟨rfl, rfl⟩
    go_wp2_with fail
    refine (HD.out _).mono ?_
    rintro e w1 ⟨rfl, rfl⟩
    go_wp2_with fail
    go_ret
    exact ⟨rfl, rfl⟩
  · have hr : zS (-z) = ⟨#[45]⟩ ++ zS z := by rw [zS_neg (by omega), zS_pos (by omega), show (-z).natAbs = z.natAbs by omega]
    rw [hr]
    obtain ⟨s, hs⟩ : ∃ s, s = zS z := ⟨_, rfl⟩
    rw [e] at hsg
    rw [← hs] at hsg hlim ⊢
    have HD := Lib.hid hsg
    clear hs hz h e hsg hr
    go_enter Tryz.func29, Tryz.ntmps29
    go_wp2_with fail
    refine (HD.out _).mono ?_
    rintro e w1 ⟨rfl, rfl⟩
    go_wp2_with fail
    refine (HD.out _).mono ?_
    rintro e w1 ⟨rfl, rfl⟩
    go_wp2_with fail
    go_ret
    exact ⟨rfl, rfl⟩
end Go.Proofs.YtjebddpapbopnaaGreatDoor

namespace Go.Proofs.YtjebddpapbopnaaGreatDoor
open Go.RowKit

def sdI (z : Int) : Int := if z < 0 then -1 else 1
theorem cmp_sd {x y : Int} (h : sgnI x = sgnI y) : cmpN x.natAbs y.natAbs * sdI x = cmpZ x y := by
  unfold sdI
  rcases sgnI_ways x with ⟨h1, e1⟩ | ⟨h1, e1⟩ | ⟨h1, e1⟩ <;> rcases sgnI_ways y with ⟨h2, e2⟩ | ⟨h2, e2⟩ | ⟨h2, e2⟩ <;> rw [e1, e2] at h <;> first | (exfalso; omega) | skip
  all_goals
    first | rw [if_pos h1] | rw [if_neg (by omega)]
    rcases cmpN_ways x.natAbs y.natAbs with ⟨h4, e4⟩ | ⟨h4, e4⟩ | ⟨h4, e4⟩ <;>
      rcases cmpZ_ways x y with ⟨h3, e3⟩ | ⟨h3, e3⟩ | ⟨h3, e3⟩ <;> rw [e3, e4] <;> first | (exfalso; omega) | rfl | decide
theorem sgn_lt {x y : Int} (h : sgnI x ≠ sgnI y) : (sgnI x < sgnI y ∧ cmpZ x y = -1) ∨ (¬ sgnI x < sgnI y ∧ cmpZ x y = 1) := by
  rcases sgnI_ways x with ⟨h1, e1⟩ | ⟨h1, e1⟩ | ⟨h1, e1⟩ <;> rcases sgnI_ways y with ⟨h2, e2⟩ | ⟨h2, e2⟩ | ⟨h2, e2⟩ <;> rw [e1, e2] at h ⊢ <;>
    rcases cmpZ_ways x y with ⟨h3, e3⟩ | ⟨h3, e3⟩ | ⟨h3, e3⟩ <;> rw [e3] <;> first | (exfalso; omega) | (left; exact ⟨by decide, rfl⟩) | (right; exact ⟨by decide, rfl⟩)
set_option maxHeartbeats 1600000 in
theorem cmpR_any (x y : Int) (w : World) (hx : (str x.natAbs).size ≤ 1000000) (hy : (str y.natAbs).size ≤ 1000000) :
    Calls Tryz.prog 27 #[.string (zS x), .string (zS y)] w fun e w' => e = .returned (.int .i64 (cmpZ x y)) ∧ w = w' := by
  have HSX := Lib.hid (fun wx => signR_any x wx hx)
  have HSY := Lib.hid (fun wx => signR_any y wx hy)
  have HDX := Lib.hid (fun wx => digitsR_any x wx hx)
  have HDY := Lib.hid (fun wx => digitsR_any y wx hy)
  have hsd := fun wx => sideR_any x wx hx
  rw [show (if x < 0 then (-1 : Int) else 1) = sdI x from rfl] at hsd
  have HSD := Lib.hid hsd
  clear hsd
  obtain ⟨a, ha⟩ : ∃ a : Nat, a = x.natAbs := ⟨_, rfl⟩
  obtain ⟨b, hb⟩ : ∃ b : Nat, b = y.natAbs := ⟨_, rfl⟩
  rw [← ha] at HDX
  rw [← hb] at HDY
  obtain ⟨X, hX⟩ : ∃ X, X = sgnI x := ⟨_, rfl⟩
  obtain ⟨Y, hY⟩ : ∃ X, X = sgnI y := ⟨_, rfl⟩
  obtain ⟨s, hs⟩ : ∃ s, s = zS x := ⟨_, rfl⟩
  obtain ⟨t, ht⟩ : ∃ s, s = zS y := ⟨_, rfl⟩
  rw [← hs] at HSX HDX HSD ⊢
  rw [← ht] at HSY HDY ⊢
  rw [← hX] at HSX
  rw [← hY] at HSY
  by_cases h : X = Y
  · have hm := cmp_sd (x := x) (y := y) (by rw [← hX, ← hY]; exact h)
    rw [← ha, ← hb] at hm
    obtain ⟨D, hD⟩ : ∃ D, D = sdI x := ⟨_, rfl⟩
    rw [← hD] at HSD hm
    obtain ⟨Z, hZ⟩ : ∃ Z, Z = cmpZ x y := ⟨_, rfl⟩
    rw [← hZ] at hm ⊢
    have hDw : D = -1 ∨ D = 1 := by rw [hD]; unfold sdI; by_cases h : x < 0
                                    · left; rw [if_pos h]
                                    · right; rw [if_neg h]
    have hn : (X != Y) = false := by rw [h]; simp
    clear hs ht hX hY hx hy ha hb hD hZ
    subst h
    by_cases hsz : (str a).size = (str b).size
    · have hne : (((str a).size : Int) != ((str b).size : Int)) = false := by simp [hsz]
      have hl := (str_less (a := a) (b := b) (by rw [str_size, str_size] at hsz; exact hsz)).1
      have hg := (str_less (a := b) (b := a) (by rw [str_size, str_size] at hsz; exact hsz.symm)).1
      have he := str_beq a b
      rcases cmpN_ways a b with ⟨h4, e4⟩ | ⟨h4, e4⟩ | ⟨h4, e4⟩
      · rw [decide_eq_true (by omega)] at hl
        rw [decide_eq_false (by omega)] at hg he
        rw [e4] at hm
        clear h4 e4 hsz
        rcases hDw with rfl | rfl
        all_goals
          simp at hm
          subst hm
          go_enter Tryz.func27, Tryz.ntmps27
          go_wp2_with fail
          refine (HSX.out _).mono ?_
          rintro e w1 ⟨rfl, rfl⟩
          go_wp2_with fail
          refine (HSY.out _).mono ?_
          rintro e w1 ⟨rfl, rfl⟩
          go_wp2_with fail
          refine (HDX.out _).mono ?_
          rintro e w1 ⟨rfl, rfl⟩
          go_wp2_with fail
          refine (HDY.out _).mono ?_
          rintro e w1 ⟨rfl, rfl⟩
          go_wp2_with fail
          refine (HSD.out _).mono ?_
          rintro e w1 ⟨rfl, rfl⟩
          go_wp2_with fail
          go_ret
          exact ⟨rfl, rfl⟩
      · rw [decide_eq_false (by omega)] at hl hg
        rw [decide_eq_true h4] at he
        rw [e4] at hm
        clear h4 e4 hsz
        rcases hDw with rfl | rfl
        all_goals
          simp at hm
          subst hm
          go_enter Tryz.func27, Tryz.ntmps27
          go_wp2_with fail
          refine (HSX.out _).mono ?_
          rintro e w1 ⟨rfl, rfl⟩
          go_wp2_with fail
          refine (HSY.out _).mono ?_
          rintro e w1 ⟨rfl, rfl⟩
          go_wp2_with fail
          refine (HDX.out _).mono ?_
          rintro e w1 ⟨rfl, rfl⟩
          go_wp2_with fail
          refine (HDY.out _).mono ?_
          rintro e w1 ⟨rfl, rfl⟩
          go_wp2_with fail
          refine (HSD.out _).mono ?_
          rintro e w1 ⟨rfl, rfl⟩
          go_wp2_with fail
          go_ret
          exact ⟨rfl, rfl⟩
      · rw [decide_eq_false (by omega)] at hl he
        rw [decide_eq_true (by omega)] at hg
        rw [e4] at hm
        clear h4 e4 hsz
        rcases hDw with rfl | rfl
        all_goals
          simp at hm
          subst hm
          go_enter Tryz.func27, Tryz.ntmps27
          go_wp2_with fail
          refine (HSX.out _).mono ?_
          rintro e w1 ⟨rfl, rfl⟩
          go_wp2_with fail
          refine (HSY.out _).mono ?_
          rintro e w1 ⟨rfl, rfl⟩
          go_wp2_with fail
          refine (HDX.out _).mono ?_
          rintro e w1 ⟨rfl, rfl⟩
          go_wp2_with fail
          refine (HDY.out _).mono ?_
          rintro e w1 ⟨rfl, rfl⟩
          go_wp2_with fail
          refine (HSD.out _).mono ?_
          rintro e w1 ⟨rfl, rfl⟩
          go_wp2_with fail
          go_ret
          exact ⟨rfl, rfl⟩
    · have hne : (((str a).size : Int) != ((str b).size : Int)) = true := by simp; omega
      by_cases hlt : (str a).size < (str b).size
      · rw [cmp_lt (size_lt hlt)] at hm
        have hlt2 : decide (((str a).size : Int) < ((str b).size : Int)) = true := decide_eq_true (by omega)
        clear hsz
        rcases hDw with rfl | rfl
        all_goals
          simp at hm
          subst hm
          go_enter Tryz.func27, Tryz.ntmps27
          go_wp2_with fail
          refine (HSX.out _).mono ?_
          rintro e w1 ⟨rfl, rfl⟩
          go_wp2_with fail
          refine (HSY.out _).mono ?_
          rintro e w1 ⟨rfl, rfl⟩
          go_wp2_with fail
          refine (HDX.out _).mono ?_
          rintro e w1 ⟨rfl, rfl⟩
          go_wp2_with fail
          refine (HDY.out _).mono ?_
          rintro e w1 ⟨rfl, rfl⟩
          go_wp2_with fail
          refine (HSD.out _).mono ?_
          rintro e w1 ⟨rfl, rfl⟩
          go_wp2_with fail
          go_ret
          exact ⟨rfl, rfl⟩
      · rw [cmp_gt (size_lt (by omega))] at hm
        have hlt2 : decide (((str a).size : Int) < ((str b).size : Int)) = false := decide_eq_false (by omega)
        clear hsz
        rcases hDw with rfl | rfl
        all_goals
          simp at hm
          subst hm
          go_enter Tryz.func27, Tryz.ntmps27
          go_wp2_with fail
          refine (HSX.out _).mono ?_
          rintro e w1 ⟨rfl, rfl⟩
          go_wp2_with fail
          refine (HSY.out _).mono ?_
          rintro e w1 ⟨rfl, rfl⟩
          go_wp2_with fail
          refine (HDX.out _).mono ?_
          rintro e w1 ⟨rfl, rfl⟩
          go_wp2_with fail
          refine (HDY.out _).mono ?_
          rintro e w1 ⟨rfl, rfl⟩
          go_wp2_with fail
          refine (HSD.out _).mono ?_
          rintro e w1 ⟨rfl, rfl⟩
          go_wp2_with fail
          go_ret
          exact ⟨rfl, rfl⟩
  · have hn : (X != Y) = true := by simpa using h
    obtain ⟨Z, hZ⟩ : ∃ Z, Z = cmpZ x y := ⟨_, rfl⟩
    rcases sgn_lt (x := x) (y := y) (by rw [← hX, ← hY]; exact h) with ⟨h5, e5⟩ | ⟨h5, e5⟩
    · rw [e5]
      have hl : decide (X < Y) = true := decide_eq_true (by rw [hX, hY]; exact h5)
      clear h hX hY hs ht hx hy ha hb hZ h5 e5 HDX HDY HSD
      go_enter Tryz.func27, Tryz.ntmps27
      go_wp2_with fail
      refine (HSX.out _).mono ?_
      rintro e w1 ⟨rfl, rfl⟩
      go_wp2_with fail
      refine (HSY.out _).mono ?_
      rintro e w1 ⟨rfl, rfl⟩
      go_wp2_with fail
      refine (HSX.out _).mono ?_
      rintro e w1 ⟨rfl, rfl⟩
      go_wp2_with fail
      refine (HSY.out _).mono ?_
      rintro e w1 ⟨rfl, rfl⟩
      go_wp2_with fail
      go_ret
      exact ⟨rfl, rfl⟩
    · rw [e5]
      have hl : decide (X < Y) = false := decide_eq_false (by rw [hX, hY]; exact h5)
      clear h hX hY hs ht hx hy ha hb hZ h5 e5 HDX HDY HSD
      go_enter Tryz.func27, Tryz.ntmps27
      go_wp2_with fail
      refine (HSX.out _).mono ?_
      rintro e w1 ⟨rfl, rfl⟩
      go_wp2_with fail
      refine (HSY.out _).mono ?_
      rintro e w1 ⟨rfl, rfl⟩
      go_wp2_with fail
      refine (HSX.out _).mono ?_
      rintro e w1 ⟨rfl, rfl⟩
      go_wp2_with fail
      refine (HSY.out _).mono ?_
      rintro e w1 ⟨rfl, rfl⟩
      go_wp2_with fail
      go_ret
      exact ⟨rfl, rfl⟩
end Go.Proofs.YtjebddpapbopnaaGreatDoor

namespace Go.Proofs.YtjebddpapbopnaaGreatDoor
open Go.RowKit

/-- whether the quotient that is cut off is one too great -/
def offB (m n : Int) : Bool := (m.tmod n != 0) && (decide (m.tmod n < 0) != decide (n < 0))
def dnQ (m n : Int) : Int := if offB m n = true then m.tdiv n - 1 else m.tdiv n
def dnR (m n : Int) : Int := if offB m n = true then m.tmod n + n else m.tmod n
theorem tdiv_small (m n : Int) (h1 : -1000000000000000000 < m) (h2 : m < 1000000000000000000) : -1000000000000000000 < m.tdiv n ∧ m.tdiv n < 1000000000000000000 := by
  have h := Int.natAbs_tdiv m n
  have h3 : (m.tdiv n).natAbs ≤ m.natAbs := by rw [h]; exact Nat.div_le_self _ _
  omega
theorem tmod_small (m n : Int) (h1 : -1000000000000000000 < m) (h2 : m < 1000000000000000000) : -1000000000000000000 < m.tmod n ∧ m.tmod n < 1000000000000000000 := by
  have h := Int.natAbs_tmod m n
  have h3 : (m.tmod n).natAbs ≤ m.natAbs := by rw [h]; exact Nat.mod_le _ _
  omega
set_option maxHeartbeats 1600000 in
theorem downW_any (m n : Int) (w : World) (hn : n ≠ 0) (h1 : -1000000000000000000 < m) (h2 : m < 1000000000000000000) (h3 : -1000000000000000000 < n) (h4 : n < 1000000000000000000) :
    Calls Tryz.prog 76 #[.int .i64 m, .int .i64 n] w fun e w' => e = .returned (.tuple #[.int .i64 (dnQ m n), .int .i64 (dnR m n)]) ∧ Below w.heap.size w w' := by
  obtain ⟨q1, q2⟩ := tdiv_small m n h1 h2
  obtain ⟨r1, r2⟩ := tmod_small m n h1 h2
  have HQ := Lib.hid (show dnQ m n = if offB m n = true then m.tdiv n - 1 else m.tdiv n from rfl)
  have HR := Lib.hid (show dnR m n = if offB m n = true then m.tmod n + n else m.tmod n from rfl)
  have HO := Lib.hid (show offB m n = ((m.tmod n != 0) && (decide (m.tmod n < 0) != decide (n < 0))) from rfl)
  obtain ⟨q, hq⟩ : ∃ q, q = m.tdiv n := ⟨_, rfl⟩
  obtain ⟨r, hr⟩ : ∃ r, r = m.tmod n := ⟨_, rfl⟩
  rw [← hq] at q1 q2 HQ
  rw [← hr] at r1 r2 HR HO
  have hq' := hq.symm
  have hr' := hr.symm
  have hnz : (n == 0) = false := by rw [beq_eq_false_iff_ne]; exact hn
  have wq := IntWalk.i64_in q ⟨by omega, by omega⟩
  have wr := IntWalk.i64_in r ⟨by omega, by omega⟩
  have wq1 := IntWalk.i64_in (q - 1) ⟨by omega, by omega⟩
  have wr1 := IntWalk.i64_in (r + n) ⟨by omega, by omega⟩
  obtain ⟨Q, hQ⟩ : ∃ Q, Q = dnQ m n := ⟨_, rfl⟩
  obtain ⟨R, hR⟩ : ∃ R, R = dnR m n := ⟨_, rfl⟩
  obtain ⟨O, hO⟩ : ∃ O, O = offB m n := ⟨_, rfl⟩
  rw [← hQ] at HQ ⊢
  rw [← hR] at HR ⊢
  rw [← hO] at HQ HR HO
  clear hq hr hQ hR hO
  by_cases hz : r = 0
  · have HO2 := Lib.hid (show O = false by rw [HO.out, hz]; rfl)
    have hzb : (r != 0) = false := by rw [hz]; rfl
    have HQ2 := Lib.hid (show Q = q by rw [HQ.out, HO2.out]; rfl)
    have HR2 := Lib.hid (show R = r by rw [HR.out, HO2.out]; rfl)
    clear hz HQ HR HO
    go_enter Tryz.func76, Tryz.ntmps76
    go_wp2_with fail
    go_quiet (fail)
    go_wp2_with fail
    go_ret2
    exact ⟨by rw [HQ2.out, HR2.out]; rfl, below_drewN (Below.refl _ _) _⟩
  · have hzb : (r != 0) = true := by simpa using hz
    by_cases hr0 : r < 0
    · by_cases hn0 : n < 0
      · have hrd : decide (r < 0) = true := decide_eq_true hr0
        have hnd : decide (n < 0) = true := decide_eq_true hn0
        have HO2 := Lib.hid (show O = false by rw [HO.out, hzb, hrd, hnd]; rfl)
        have HQ2 := Lib.hid (show Q = q by rw [HQ.out, HO2.out]; rfl)
        have HR2 := Lib.hid (show R = r by rw [HR.out, HO2.out]; rfl)
        clear hz HQ HR HO hr0 hn0
        go_enter Tryz.func76, Tryz.ntmps76
        go_wp2_with fail
        go_quiet (fail)
        go_wp2_with fail
        go_ret2
        exact ⟨by rw [HQ2.out, HR2.out]; rfl, below_drewN (Below.refl _ _) _⟩
      · have hrd : decide (r < 0) = true := decide_eq_true hr0
        have hnd : decide (n < 0) = false := decide_eq_false hn0
        have HO2 := Lib.hid (show O = true by rw [HO.out, hzb, hrd, hnd]; rfl)
        have HQ2 := Lib.hid (show Q = q - 1 by rw [HQ.out, HO2.out]; rfl)
        have HR2 := Lib.hid (show R = r + n by rw [HR.out, HO2.out]; rfl)
        clear hz HQ HR HO hr0 hn0
        go_enter Tryz.func76, Tryz.ntmps76
        go_wp2_with fail
        go_quiet (fail)
        go_wp2_with fail
        go_ret2
        exact ⟨by rw [HQ2.out, HR2.out]; rfl, below_drewN (Below.refl _ _) _⟩
    · by_cases hn0 : n < 0
      · have hrd : decide (r < 0) = false := decide_eq_false hr0
        have hnd : decide (n < 0) = true := decide_eq_true hn0
        have HO2 := Lib.hid (show O = true by rw [HO.out, hzb, hrd, hnd]; rfl)
        have HQ2 := Lib.hid (show Q = q - 1 by rw [HQ.out, HO2.out]; rfl)
        have HR2 := Lib.hid (show R = r + n by rw [HR.out, HO2.out]; rfl)
        clear hz HQ HR HO hr0 hn0
        go_enter Tryz.func76, Tryz.ntmps76
        go_wp2_with fail
        go_quiet (fail)
        go_wp2_with fail
        go_ret2
        exact ⟨by rw [HQ2.out, HR2.out]; rfl, below_drewN (Below.refl _ _) _⟩
      · have hrd : decide (r < 0) = false := decide_eq_false hr0
        have hnd : decide (n < 0) = false := decide_eq_false hn0
        have HO2 := Lib.hid (show O = false by rw [HO.out, hzb, hrd, hnd]; rfl)
        have HQ2 := Lib.hid (show Q = q by rw [HQ.out, HO2.out]; rfl)
        have HR2 := Lib.hid (show R = r by rw [HR.out, HO2.out]; rfl)
        clear hz HQ HR HO hr0 hn0
        go_enter Tryz.func76, Tryz.ntmps76
        go_wp2_with fail
        go_quiet (fail)
        go_wp2_with fail
        go_ret2
        exact ⟨by rw [HQ2.out, HR2.out]; rfl, below_drewN (Below.refl _ _) _⟩
end Go.Proofs.YtjebddpapbopnaaGreatDoor

namespace Go.Proofs.YtjebddpapbopnaaGreatDoor
open Go.RowKit

theorem dn_small (m n : Int) (h1 : -1000000000000000000 < m) (h2 : m < 1000000000000000000) (h3 : -1000000000000000000 < n) (h4 : n < 1000000000000000000) :
    (-2000000000000000000 ≤ dnQ m n ∧ dnQ m n ≤ 2000000000000000000) ∧ -2000000000000000000 ≤ dnR m n ∧ dnR m n ≤ 2000000000000000000 := by
  obtain ⟨q1, q2⟩ := tdiv_small m n h1 h2
  obtain ⟨r1, r2⟩ := tmod_small m n h1 h2
  unfold dnQ dnR
  split <;> omega
set_option maxHeartbeats 1600000 in
theorem divW_few (x y : Int) (w : World) (hs : Std w) (hf : (fewB x && fewB y) = true) (hy : y ≠ 0) :
    Calls Tryz.prog 41 #[.string (zS x), .string (zS y)] w fun e w' => e = .returned (.tuple #[.string (zS (dnQ x y)), .string (zS (dnR x y)), .int .i64 0]) ∧ Below w.heap.size w w' := by
  have hb : -1000000000000000000 < x ∧ x < 1000000000000000000 ∧ -1000000000000000000 < y ∧ y < 1000000000000000000 := by
    unfold fewB at hf; simp at hf; omega
  have hsx : (str x.natAbs).size ≤ 18 := str_big (n := 18) (by omega) (by decide)
  have hsy : (str y.natAbs).size ≤ 18 := str_big (n := 18) (by omega) (by decide)
  have hB := both_any x y w hs (by omega) (by omega)
  rw [hf] at hB
  have HB := Lib.hid hB
  have HD := Lib.hid (fun wx => downW_any x y wx hy (by omega) (by omega) (by omega) (by omega))
  obtain ⟨⟨q1, q2⟩, r1, r2⟩ := dn_small x y (by omega) (by omega) (by omega) (by omega)
  have HQ := Lib.hid (fun wx hw => ofW_any (dnQ x y) wx hw (by omega) (by omega))
  have HR := Lib.hid (fun wx hw => ofW_any (dnR x y) wx hw (by omega) (by omega))
  have HS := Lib.hid hs
  have hyb : (y != 0) = true := by simpa using hy
  obtain ⟨s, hs2⟩ : ∃ s, s = zS x := ⟨_, rfl⟩
  obtain ⟨t, ht⟩ : ∃ t, t = zS y := ⟨_, rfl⟩
  rw [← hs2] at HB ⊢
  rw [← ht] at HB ⊢
  obtain ⟨Q, hQ⟩ : ∃ Q, Q = dnQ x y := ⟨_, rfl⟩
  obtain ⟨R, hR⟩ : ∃ R, R = dnR x y := ⟨_, rfl⟩
  rw [← hQ] at HD HQ ⊢
  rw [← hR] at HD HR ⊢
  obtain ⟨u, hu⟩ : ∃ u, u = zS Q := ⟨_, rfl⟩
  obtain ⟨v, hv⟩ : ∃ u, u = zS R := ⟨_, rfl⟩
  rw [← hu] at HQ ⊢
  rw [← hv] at HR ⊢
  clear hs hf hb hsx hsy hB hs2 ht hQ hR hu hv q1 q2 r1 r2 hy
  go_enter Tryz.func41, Tryz.ntmps41
  go_wp2_with fail
  refine HB.out.mono ?_
  rintro e w1 ⟨⟨a, b, rfl, huv⟩, h1⟩
  obtain ⟨rfl, rfl⟩ := huv trivial
  have B1 := Lib.hid h1
  clear h1 huv
  go_wp2_with fail
  refine (HD.out _).mono ?_
  rintro e w2 ⟨rfl, h2⟩
  have B2 := Lib.hid (B1.out.trans (h2.mono B1.out.size))
  clear h2
  go_wp2_with fail
  refine (HQ.out _ (HS.out.below B2.out)).mono ?_
  rintro e w3 ⟨rfl, h3⟩
  have B3 := Lib.hid (B2.out.trans (h3.mono B2.out.size))
  clear h3
  go_wp2_with fail
  refine (HR.out _ (HS.out.below B3.out)).mono ?_
  rintro e w4 ⟨rfl, h4⟩
  have B4 := Lib.hid (B3.out.trans (h4.mono B3.out.size))
  clear h4
  go_wp2_with fail
  go_ret3
  exact ⟨rfl, B4.out⟩
end Go.Proofs.YtjebddpapbopnaaGreatDoor

namespace Go.Proofs.YtjebddpapbopnaaGreatDoor
open Go.RowKit

set_option maxHeartbeats 800000 in
theorem gcdW_any (x y : Int) (w : World) (hs : Std w) (hx : (str x.natAbs).size ≤ 400000) (hy : (str y.natAbs).size ≤ 400000) :
    Calls Tryz.prog 45 #[.string (zS x), .string (zS y)] w fun e w' => e = .returned (.string (str (Nat.gcd x.natAbs y.natAbs))) ∧ Below w.heap.size w w' := by
  have HX := Lib.hid (fun wx => abs_any x wx (by omega))
  have HY := Lib.hid (fun wx => abs_any y wx (by omega))
  have HG := Lib.hid (fun wx hw => gcdN_any x.natAbs y.natAbs wx hw (by omega) (by omega))
  have HS := Lib.hid hs
  obtain ⟨s, hs2⟩ : ∃ s, s = zS x := ⟨_, rfl⟩
  obtain ⟨t, ht⟩ : ∃ t, t = zS y := ⟨_, rfl⟩
  obtain ⟨p, hp⟩ : ∃ p, p = str x.natAbs := ⟨_, rfl⟩
  obtain ⟨q, hq⟩ : ∃ q, q = str y.natAbs := ⟨_, rfl⟩
  obtain ⟨g, hg⟩ : ∃ g, g = str (Nat.gcd x.natAbs y.natAbs) := ⟨_, rfl⟩
  rw [← hs2] at HX ⊢
  rw [← ht] at HY ⊢
  rw [← hp] at HX HG
  rw [← hq] at HY HG
  rw [← hg] at HG ⊢
  clear hs hx hy hs2 ht hp hq hg
  go_enter Tryz.func45, Tryz.ntmps45
  go_wp2_with fail
  refine (HX.out _).mono ?_
  rintro e w1 ⟨rfl, h1⟩
  have B1 := Lib.hid h1
  clear h1
  go_wp2_with fail
  refine (HY.out _).mono ?_
  rintro e w2 ⟨rfl, h2⟩
  have B2 := Lib.hid (B1.out.trans (h2.mono B1.out.size))
  clear h2
  go_wp2_with fail
  refine (HG.out _ (HS.out.below B2.out)).mono ?_
  rintro e w3 ⟨rfl, h3⟩
  have B3 := Lib.hid (B2.out.trans (h3.mono B2.out.size))
  clear h3
  go_wp2_with fail
  go_ret
  exact ⟨rfl, B3.out⟩
end Go.Proofs.YtjebddpapbopnaaGreatDoor

namespace Go.Proofs.YtjebddpapbopnaaGreatDoor
open Go.RowKit

theorem fl_unique {x y q r : Int} (h : x = y * q + r) (hr : (0 ≤ r ∧ r < y) ∨ (y < r ∧ r ≤ 0)) : q = x.fdiv y ∧ r = x.fmod y := by
  rcases hr with ⟨h1, h2⟩ | ⟨h1, h2⟩
  · have h3 := (Int.ediv_emod_unique (a := x) (b := y) (r := r) (q := q) (by omega)).2 ⟨by omega, h1, h2⟩
    rw [Int.fdiv_eq_ediv_of_nonneg _ (by omega), Int.fmod_eq_emod_of_nonneg _ (by omega)]
    exact ⟨h3.1.symm, h3.2.symm⟩
  · have h3 := (Int.ediv_emod_unique (a := -x) (b := -y) (r := -r) (q := q) (by omega)).2 ⟨by rw [h, Int.neg_mul]; omega, by omega, by omega⟩
    have h4 : x.fdiv y = (-x).fdiv (-y) := (Int.neg_fdiv_neg x y).symm
    have h5 : x.fmod y = x - y * x.fdiv y := Int.fmod_def x y
    have hq : q = x.fdiv y := by rw [h4, Int.fdiv_eq_ediv_of_nonneg _ (by omega)]; exact h3.1.symm
    refine ⟨hq, ?_⟩
    rw [h5, ← hq]; omega
theorem fl_range (x : Int) {y : Int} (hy : y ≠ 0) : x = y * x.fdiv y + x.fmod y ∧ ((0 ≤ x.fmod y ∧ x.fmod y < y) ∨ (y < x.fmod y ∧ x.fmod y ≤ 0)) := by
  refine ⟨by have := Int.fmod_def x y; omega, ?_⟩
  rcases (by omega : 0 < y ∨ y < 0) with h | h
  · exact .inl ⟨Int.fmod_nonneg_of_pos x h, Int.fmod_lt_of_pos x h⟩
  · have h1 := Int.fmod_def x y
    have h2 := Int.fmod_def (-x) (-y)
    rw [Int.neg_fdiv_neg, Int.neg_mul] at h2
    have h3 := Int.fmod_nonneg_of_pos (-x) (b := -y) (by omega)
    have h4 := Int.fmod_lt_of_pos (-x) (b := -y) (by omega)
    exact .inr ⟨by omega, by omega⟩
theorem nat_div (x y : Int) : x.natAbs = y.natAbs * (x.natAbs / y.natAbs) + x.natAbs % y.natAbs := (Nat.div_add_mod _ _).symm
/-- the great way's four ways -/
theorem fl_same {x y : Int} (hy : y ≠ 0) (h : decide (x < 0) = decide (y < 0)) :
    ((x.natAbs / y.natAbs : Nat) : Int) = x.fdiv y ∧ (if decide (y < 0) = true then -((x.natAbs % y.natAbs : Nat) : Int) else ((x.natAbs % y.natAbs : Nat) : Int)) = x.fmod y := by
  have h1 := nat_div x y
  have h2 := Nat.mod_lt x.natAbs (show 0 < y.natAbs by omega)
  obtain ⟨Q, hQ⟩ : ∃ Q, Q = x.natAbs / y.natAbs := ⟨_, rfl⟩
  obtain ⟨R, hR⟩ : ∃ R, R = x.natAbs % y.natAbs := ⟨_, rfl⟩
  rw [← hQ, ← hR] at h1
  rw [← hR] at h2
  rw [← hQ, ← hR]
  clear hQ hR
  have h3 : (x.natAbs : Int) = (y.natAbs : Int) * (Q : Int) + (R : Int) := by rw [h1]; push_cast; rfl
  have e : (x < 0) ↔ (y < 0) := by rw [← decide_eq_true_iff (p := x < 0), ← decide_eq_true_iff (p := y < 0), h]
  by_cases hn : y < 0
  · have hx := e.2 hn
    rw [decide_eq_true hn, if_pos rfl]
    rw [show (x.natAbs : Int) = -x by omega, show (y.natAbs : Int) = -y by omega, Int.neg_mul] at h3
    exact fl_unique (by omega) (by omega)
  · have hx : ¬ x < 0 := fun q => hn (e.1 q)
    rw [decide_eq_false hn, if_neg (by decide)]
    rw [show (x.natAbs : Int) = x by omega, show (y.natAbs : Int) = y by omega] at h3
    exact fl_unique (by omega) (by omega)
theorem fl_diff {x y : Int} (hy : y ≠ 0) (h : decide (x < 0) ≠ decide (y < 0)) :
    (x.natAbs % y.natAbs = 0 → -((x.natAbs / y.natAbs : Nat) : Int) = x.fdiv y ∧ (if decide (y < 0) = true then -((x.natAbs % y.natAbs : Nat) : Int) else ((x.natAbs % y.natAbs : Nat) : Int)) = x.fmod y) ∧
    (x.natAbs % y.natAbs ≠ 0 → -((x.natAbs / y.natAbs + 1 : Nat) : Int) = x.fdiv y ∧ (if decide (y < 0) = true then -((y.natAbs - x.natAbs % y.natAbs : Nat) : Int) else ((y.natAbs - x.natAbs % y.natAbs : Nat) : Int)) = x.fmod y) := by
  have h1 := nat_div x y
  have h2 := Nat.mod_lt x.natAbs (show 0 < y.natAbs by omega)
  obtain ⟨Q, hQ⟩ : ∃ Q, Q = x.natAbs / y.natAbs := ⟨_, rfl⟩
  obtain ⟨R, hR⟩ : ∃ R, R = x.natAbs % y.natAbs := ⟨_, rfl⟩
  rw [← hQ, ← hR] at h1
  rw [← hR] at h2
  rw [← hQ, ← hR]
  clear hQ hR
  have h3 : (x.natAbs : Int) = (y.natAbs : Int) * (Q : Int) + (R : Int) := by rw [h1]; push_cast; rfl
  by_cases hn : y < 0
  · have hx : ¬ x < 0 := fun q => h (by rw [decide_eq_true hn, decide_eq_true q])
    rw [decide_eq_true hn, if_pos rfl, if_pos rfl]
    rw [show (x.natAbs : Int) = x by omega, show (y.natAbs : Int) = -y by omega, Int.neg_mul] at h3
    refine ⟨fun hz => fl_unique ?_ (by omega), fun hz => fl_unique ?_ (by omega)⟩
    · rw [Int.mul_neg]; omega
    · rw [Int.mul_neg, show ((Q + 1 : Nat) : Int) = (Q : Int) + 1 by omega, Int.mul_add]; omega
  · have hx : x < 0 := by
      apply Classical.byContradiction; intro q; exact h (by rw [decide_eq_false hn, decide_eq_false q])
    rw [decide_eq_false hn, if_neg (by decide), if_neg (by decide)]
    rw [show (x.natAbs : Int) = -x by omega, show (y.natAbs : Int) = y by omega] at h3
    refine ⟨fun hz => fl_unique ?_ (by omega), fun hz => fl_unique ?_ (by omega)⟩
    · rw [Int.mul_neg]; omega
    · rw [Int.mul_neg, show ((Q + 1 : Nat) : Int) = (Q : Int) + 1 by omega, Int.mul_add]; omega
/-- the quick way's numbers -/
theorem dn_eq (x : Int) {y : Int} (hy : y ≠ 0) : dnQ x y = x.fdiv y ∧ dnR x y = x.fmod y := by
  have h1 := Int.mul_tdiv_add_tmod x y
  have h2 : (x.tmod y).natAbs < y.natAbs := by rw [Int.natAbs_tmod]; exact Nat.mod_lt _ (by omega)
  have h4 : (0 ≤ x → 0 ≤ x.tmod y) ∧ (x ≤ 0 → x.tmod y ≤ 0) := ⟨fun h => Int.tmod_nonneg y h, fun h => by
    have := Int.tmod_nonneg y (a := -x) (by omega)
    rw [Int.neg_tmod] at this; omega⟩
  have h3 : offB x y = true ↔ (x.tmod y ≠ 0 ∧ ¬ (x.tmod y < 0 ↔ y < 0)) := by
    unfold offB
    rw [Bool.and_eq_true, bne_iff_ne, bne_iff_ne]
    refine and_congr_right fun _ => not_congr ?_
    rw [Bool.eq_iff_iff, decide_eq_true_iff, decide_eq_true_iff]
  apply fl_unique
  · unfold dnQ dnR
    split
    · rw [Int.mul_sub]; omega
    · omega
  · unfold dnR
    split
    · rename_i h
      have h5 := h3.1 h
      rcases (by omega : 0 < y ∨ y < 0) with hy' | hy' <;> omega
    · rename_i h
      have h5 : x.tmod y = 0 ∨ (x.tmod y < 0 ↔ y < 0) := by
        by_cases hz : x.tmod y = 0
        · exact .inl hz
        · right; apply Classical.byContradiction; intro q; exact h (h3.2 ⟨hz, q⟩)
      rcases (by omega : 0 < y ∨ y < 0) with hy' | hy' <;> omega
theorem one_str : (⟨#[49]⟩ : ByteArray) = str 1 := str_eq 1 (by decide) (by decide)
theorem zsz_mod {a b k : Nat} (hb : (str b).size ≤ k) (h : 0 < b) : (str (a % b)).size ≤ k := zsz_le hb (Nat.le_of_lt (Nat.mod_lt _ h))
theorem zsz_div {a b k : Nat} (ha : (str a).size ≤ k) : (str (a / b)).size ≤ k := zsz_le ha (Nat.div_le_self _ _)
theorem zsz_succ {a k : Nat} (ha : (str a).size ≤ k) (hk : 0 < k) : (str (a + 1)).size ≤ k + 1 :=
  zsz_add ha (by rw [← one_str]; show 1 ≤ k; omega) hk
theorem rest_zero (n : Nat) (hn : (str n).size ≤ 1000000) : ((str n).toList == [48]) = decide (n = 0) := by
  have h := (zF (n : Int) (by rw [show ((n : Int)).natAbs = n by omega]; exact hn)).zero
  rw [zS_of_nat] at h
  rw [h]
  by_cases h0 : n = 0
  · rw [decide_eq_true h0, decide_eq_true (by omega)]
  · rw [decide_eq_false h0, decide_eq_false (by omega)]
set_option maxHeartbeats 3200000 in
set_option maxRecDepth 100000 in
theorem divW_far (x y : Int) (w : World) (hs : Std w) (hx : (str x.natAbs).size ≤ 400000) (hy : (str y.natAbs).size ≤ 400000) (hf : (fewB x && fewB y) = false) (hy0 : y ≠ 0) :
    Calls Tryz.prog 41 #[.string (zS x), .string (zS y)] w fun e w' => e = .returned (.tuple #[.string (zS (x.fdiv y)), .string (zS (x.fmod y)), .int .i64 0]) ∧ Below w.heap.size w w' := by
  have hB := both_any x y w hs (by omega) (by omega)
  rw [hf] at hB
  have HB := Lib.hid hB
  have HX := Lib.hid (fun wx => split_any x wx (by omega))
  have HY := Lib.hid (fun wx => split_any y wx (by omega))
  have HD := Lib.hid (fun wx hw => dm_any x.natAbs y.natAbs wx hw (by omega) (by omega) (by omega))
  have sq := zsz_div (b := y.natAbs) hx
  have sr := zsz_mod (a := x.natAbs) hy (by omega)
  have HA := Lib.hid (fun wx hw => addN_any (x.natAbs / y.natAbs) 1 wx hw (by omega) (by rw [← one_str]; decide))
  rw [← one_str] at HA
  have HU := Lib.hid (fun wx hw => subN_yes y.natAbs (x.natAbs % y.natAbs) wx hw (by omega) (Nat.le_of_lt (Nat.mod_lt _ (by omega))))
  have HZ := Lib.hid (rest_zero (x.natAbs % y.natAbs) (by omega))
  have HS := Lib.hid hs
  have hqq := fun (b : Bool) wx => signed_any b (x.natAbs / y.natAbs) wx (by omega)
  have hqr := fun (b : Bool) wx => signed_any b (x.natAbs % y.natAbs) wx (by omega)
  have sq1 := zsz_succ sq (by decide)
  have sr1 := zsz_le (b := y.natAbs - x.natAbs % y.natAbs) hy (Nat.sub_le _ _)
  have hqs := fun (b : Bool) wx => signed_any b (x.natAbs / y.natAbs + 1) wx (by omega)
  have hqt := fun (b : Bool) wx => signed_any b (y.natAbs - x.natAbs % y.natAbs) wx (by omega)
  by_cases hsame : decide (x < 0) = decide (y < 0)
  · obtain ⟨v1, v2⟩ := fl_same hy0 hsame
    have HQ := Lib.hid (hqq false)
    rw [if_neg (by decide), v1] at HQ
    have HR := Lib.hid (hqr (decide (y < 0)))
    rw [v2] at HR
    rw [hsame] at HX
    obtain ⟨s, hs2⟩ : ∃ s, s = zS x := ⟨_, rfl⟩
    obtain ⟨t, ht⟩ : ∃ s, s = zS y := ⟨_, rfl⟩
    obtain ⟨p, hp⟩ : ∃ s, s = str x.natAbs := ⟨_, rfl⟩
    obtain ⟨q, hq⟩ : ∃ s, s = str y.natAbs := ⟨_, rfl⟩
    obtain ⟨Q, hQ⟩ : ∃ s, s = str (x.natAbs / y.natAbs) := ⟨_, rfl⟩
    obtain ⟨R', hR'⟩ : ∃ s, s = str (x.natAbs % y.natAbs) := ⟨_, rfl⟩
    obtain ⟨u, hu⟩ : ∃ s, s = zS (x.fdiv y) := ⟨_, rfl⟩
    obtain ⟨v, hv⟩ : ∃ s, s = zS (x.fmod y) := ⟨_, rfl⟩
    rw [← hs2] at HB HX ⊢
    rw [← ht] at HB HY ⊢
    rw [← hp] at HX HD
    rw [← hq] at HY HD
    rw [← hQ] at HD HQ
    rw [← hR'] at HD HR
    rw [← hu] at HQ ⊢
    rw [← hv] at HR ⊢
    obtain ⟨b, hb⟩ : ∃ b, b = decide (y < 0) := ⟨_, rfl⟩
    rw [← hb] at HX HY HR
    clear hb hsame hs hx hy hf hB hy0 hs2 ht hp hq hQ hR' hu hv hqq hqr hqs hqt v1 v2 HA HU
    cases b
    all_goals
      go_enter Tryz.func41, Tryz.ntmps41
      go_wp2_with fail
      refine HB.out.mono ?_
      rintro e w1 ⟨⟨u1, v1, rfl, _⟩, h1⟩
      have B1 := Lib.hid h1
      clear h1
      go_wp2_with fail
      refine (HX.out _).mono ?_
      rintro e w2 ⟨rfl, h2⟩
      have B2 := Lib.hid (B1.out.trans (h2.mono B1.out.size))
      clear h2
      go_wp2_with fail
      refine (HY.out _).mono ?_
      rintro e w3 ⟨rfl, h3⟩
      have B3 := Lib.hid (B2.out.trans (h3.mono B2.out.size))
      clear h3
      go_wp2_with fail
      refine (HD.out _ (HS.out.below B3.out)).mono ?_
      rintro e w4 ⟨rfl, h4⟩
      have B4 := Lib.hid (B3.out.trans (h4.mono B3.out.size))
      clear h4
      go_wp2_with fail
      refine (HQ.out _).mono ?_
      rintro e w5 ⟨rfl, rfl⟩
      go_wp2_with fail
      refine (HR.out _).mono ?_
      rintro e w6 ⟨rfl, rfl⟩
      go_wp2_with fail
      go_ret3
      exact ⟨rfl, B4.out⟩
  · obtain ⟨k1, k2⟩ := fl_diff hy0 hsame
    have hb' : decide (x < 0) = !decide (y < 0) := by
      cases h1 : decide (x < 0) <;> cases h2 : decide (y < 0) <;> rw [h1, h2] at hsame <;> first | rfl | exact absurd rfl hsame
    by_cases hz : x.natAbs % y.natAbs = 0
    · obtain ⟨v1, v2⟩ := k1 hz
      have HQ := Lib.hid (hqq true)
      rw [if_pos rfl, v1] at HQ
      have HR := Lib.hid (hqr (decide (y < 0)))
      rw [v2] at HR
      rw [hb'] at HX
      have hz2 := HZ.out
      rw [decide_eq_true hz] at hz2
      obtain ⟨s, hs2⟩ : ∃ s, s = zS x := ⟨_, rfl⟩
      obtain ⟨t, ht⟩ : ∃ s, s = zS y := ⟨_, rfl⟩
      obtain ⟨p, hp⟩ : ∃ s, s = str x.natAbs := ⟨_, rfl⟩
      obtain ⟨q, hq⟩ : ∃ s, s = str y.natAbs := ⟨_, rfl⟩
      obtain ⟨Q, hQ⟩ : ∃ s, s = str (x.natAbs / y.natAbs) := ⟨_, rfl⟩
      obtain ⟨R', hR'⟩ : ∃ s, s = str (x.natAbs % y.natAbs) := ⟨_, rfl⟩
      obtain ⟨u, hu⟩ : ∃ s, s = zS (x.fdiv y) := ⟨_, rfl⟩
      obtain ⟨v, hv⟩ : ∃ s, s = zS (x.fmod y) := ⟨_, rfl⟩
      rw [← hs2] at HB HX ⊢
      rw [← ht] at HB HY ⊢
      rw [← hp] at HX HD
      rw [← hq] at HY HD
      rw [← hQ] at HD HQ
      rw [← hR'] at HD HR
      rw [← hu] at HQ ⊢
      rw [← hv] at HR ⊢
      rw [← hR'] at hz2
      obtain ⟨b, hb⟩ : ∃ b, b = decide (y < 0) := ⟨_, rfl⟩
      rw [← hb] at HX HY HR
      clear hb hb' hz k1 k2 hsame hs hx hy hf hB hy0 hs2 ht hp hq hQ hR' hu hv hqq hqr hqs hqt v1 v2 HA HU HZ
      cases b
      all_goals
        go_enter Tryz.func41, Tryz.ntmps41
        go_wp2_with fail
        refine HB.out.mono ?_
        rintro e w1 ⟨⟨u1, v1, rfl, _⟩, h1⟩
        have B1 := Lib.hid h1
        clear h1
        go_wp2_with fail
        refine (HX.out _).mono ?_
        rintro e w2 ⟨rfl, h2⟩
        have B2 := Lib.hid (B1.out.trans (h2.mono B1.out.size))
        clear h2
        go_wp2_with fail
        refine (HY.out _).mono ?_
        rintro e w3 ⟨rfl, h3⟩
        have B3 := Lib.hid (B2.out.trans (h3.mono B2.out.size))
        clear h3
        go_wp2_with fail
        refine (HD.out _ (HS.out.below B3.out)).mono ?_
        rintro e w4 ⟨rfl, h4⟩
        have B4 := Lib.hid (B3.out.trans (h4.mono B3.out.size))
        clear h4
        go_wp2_with fail
        refine (HQ.out _).mono ?_
        rintro e w5 ⟨rfl, rfl⟩
        go_wp2_with fail
        refine (HR.out _).mono ?_
        rintro e w6 ⟨rfl, rfl⟩
        go_wp2_with fail
        go_ret3
        exact ⟨rfl, B4.out⟩
    · obtain ⟨v1, v2⟩ := k2 hz
      have HQ := Lib.hid (hqs true)
      rw [if_pos rfl, v1] at HQ
      have HR := Lib.hid (hqt (decide (y < 0)))
      rw [v2] at HR
      rw [hb'] at HX
      have hz2 := HZ.out
      rw [decide_eq_false hz] at hz2
      obtain ⟨q2, hq2⟩ : ∃ s, s = str (x.natAbs / y.natAbs + 1) := ⟨_, rfl⟩
      obtain ⟨r2, hr2⟩ : ∃ s, s = str (y.natAbs - x.natAbs % y.natAbs) := ⟨_, rfl⟩
      rw [← hq2] at HA HQ
      rw [← hr2] at HU HR
      obtain ⟨s, hs2⟩ : ∃ s, s = zS x := ⟨_, rfl⟩
      obtain ⟨t, ht⟩ : ∃ s, s = zS y := ⟨_, rfl⟩
      obtain ⟨p, hp⟩ : ∃ s, s = str x.natAbs := ⟨_, rfl⟩
      obtain ⟨q, hq⟩ : ∃ s, s = str y.natAbs := ⟨_, rfl⟩
      obtain ⟨Q, hQ⟩ : ∃ s, s = str (x.natAbs / y.natAbs) := ⟨_, rfl⟩
      obtain ⟨R', hR'⟩ : ∃ s, s = str (x.natAbs % y.natAbs) := ⟨_, rfl⟩
      obtain ⟨u, hu⟩ : ∃ s, s = zS (x.fdiv y) := ⟨_, rfl⟩
      obtain ⟨v, hv⟩ : ∃ s, s = zS (x.fmod y) := ⟨_, rfl⟩
      rw [← hs2] at HB HX ⊢
      rw [← ht] at HB HY ⊢
      rw [← hp] at HX HD
      rw [← hq] at HY HD HU
      rw [← hQ] at HD HA
      rw [← hR'] at HD HU
      rw [← hu] at HQ ⊢
      rw [← hv] at HR ⊢
      rw [← hR'] at hz2
      obtain ⟨b, hb⟩ : ∃ b, b = decide (y < 0) := ⟨_, rfl⟩
      rw [← hb] at HX HY HR
      clear hb hb' hz k1 k2 hsame hs hx hy hf hB hy0 hs2 ht hp hq hQ hR' hu hv hqq hqr hqs hqt v1 v2 HZ hq2 hr2
      cases b
      all_goals
        go_enter Tryz.func41, Tryz.ntmps41
        go_wp2_with fail
        refine HB.out.mono ?_
        rintro e w1 ⟨⟨u1, v1, rfl, _⟩, h1⟩
        have B1 := Lib.hid h1
        clear h1
        go_wp2_with fail
        refine (HX.out _).mono ?_
        rintro e w2 ⟨rfl, h2⟩
        have B2 := Lib.hid (B1.out.trans (h2.mono B1.out.size))
        clear h2
        go_wp2_with fail
        refine (HY.out _).mono ?_
        rintro e w3 ⟨rfl, h3⟩
        have B3 := Lib.hid (B2.out.trans (h3.mono B2.out.size))
        clear h3
        go_wp2_with fail
        refine (HD.out _ (HS.out.below B3.out)).mono ?_
        rintro e w4 ⟨rfl, h4⟩
        have B4 := Lib.hid (B3.out.trans (h4.mono B3.out.size))
        clear h4
        go_wp2_with fail
        refine (HA.out _ (HS.out.below B4.out)).mono ?_
        rintro e w5 ⟨rfl, h5⟩
        have B5 := Lib.hid (B4.out.trans (h5.mono B4.out.size))
        clear h5
        go_wp2_with fail
        refine (HU.out _ (HS.out.below B5.out)).mono ?_
        rintro e w6 ⟨rfl, h6⟩
        have B6 := Lib.hid (B5.out.trans (h6.mono B5.out.size))
        clear h6
        go_wp2_with fail
        refine (HQ.out _).mono ?_
        rintro e w7 ⟨rfl, rfl⟩
        go_wp2_with fail
        refine (HR.out _).mono ?_
        rintro e w8 ⟨rfl, rfl⟩
        go_wp2_with fail
        go_ret3
        exact ⟨rfl, B6.out⟩
set_option maxHeartbeats 1600000 in
theorem divW_zero (x y : Int) (w : World) (hs : Std w) (hx : (str x.natAbs).size ≤ 400000) (hy0 : y = 0) :
    Calls Tryz.prog 41 #[.string (zS x), .string (zS y)] w fun e w' => e = .returned (.tuple #[.string ⟨#[]⟩, .string ⟨#[]⟩, .int .i64 17]) ∧ Below w.heap.size w w' := by
  have hsy : (str y.natAbs).size ≤ 400000 := by rw [hy0]; exact Nat.le_trans (str_big (n := 1) (by decide) (by decide)) (by decide)
  have HB := Lib.hid (both_any x y w hs (by omega) (by omega))
  have HX := Lib.hid (fun wx => split_any x wx (by omega))
  have HY := Lib.hid (fun wx => split_any y wx (by omega))
  have HD := Lib.hid (fun wx hw => dm_zero x.natAbs y.natAbs wx hw (by omega) (by omega))
  have HS := Lib.hid hs
  have hyz : (y == 0) = true := by rw [beq_iff_eq]; exact hy0
  obtain ⟨s, hs2⟩ : ∃ s, s = zS x := ⟨_, rfl⟩
  obtain ⟨t, ht⟩ : ∃ t, t = zS y := ⟨_, rfl⟩
  obtain ⟨p, hp⟩ : ∃ p, p = str x.natAbs := ⟨_, rfl⟩
  obtain ⟨q, hq⟩ : ∃ q, q = str y.natAbs := ⟨_, rfl⟩
  rw [← hs2] at HB HX ⊢
  rw [← ht] at HB HY ⊢
  rw [← hp] at HX HD
  rw [← hq] at HY HD
  obtain ⟨b1, hb1⟩ : ∃ b, b = decide (x < 0) := ⟨_, rfl⟩
  obtain ⟨b2, hb2⟩ : ∃ b, b = decide (y < 0) := ⟨_, rfl⟩
  rw [← hb1] at HX
  rw [← hb2] at HY
  obtain ⟨F, hF⟩ : ∃ F, F = (fewB x && fewB y) := ⟨_, rfl⟩
  rw [← hF] at HB
  have HY0 := Lib.hid hy0
  clear hs2 ht hp hq hs hx hsy hb1 hb2 hF hy0 hyz
  cases F
  · go_enter Tryz.func41, Tryz.ntmps41
    go_wp2_with fail
    refine HB.out.mono ?_
    rintro e w1 ⟨⟨u1, v1, rfl, _⟩, h1⟩
    have B1 := Lib.hid h1
    clear h1
    go_wp2_with fail
    refine (HX.out _).mono ?_
    rintro e w2 ⟨rfl, h2⟩
    have B2 := Lib.hid (B1.out.trans (h2.mono B1.out.size))
    clear h2
    go_wp2_with fail
    refine (HY.out _).mono ?_
    rintro e w3 ⟨rfl, h3⟩
    have B3 := Lib.hid (B2.out.trans (h3.mono B2.out.size))
    clear h3
    go_wp2_with fail
    refine (HD.out _ (HS.out.below B3.out)).mono ?_
    rintro e w4 ⟨rfl, h4⟩
    have B4 := Lib.hid (B3.out.trans (h4.mono B3.out.size))
    clear h4
    go_wp2_with fail
    go_ret3
    exact ⟨rfl, B4.out⟩
  · go_enter Tryz.func41, Tryz.ntmps41
    go_wp2_with fail
    refine HB.out.mono ?_
    rintro e w1 ⟨⟨u1, v1, rfl, huv⟩, h1⟩
    have B1 := Lib.hid h1
    clear h1
    obtain ⟨rfl, rfl⟩ := huv trivial
    have hyz := HY0.out
    clear huv
    go_wp2_with fail
    refine (HX.out _).mono ?_
    rintro e w2 ⟨rfl, h2⟩
    have B2 := Lib.hid (B1.out.trans (h2.mono B1.out.size))
    clear h2
    go_wp2_with fail
    refine (HY.out _).mono ?_
    rintro e w3 ⟨rfl, h3⟩
    have B3 := Lib.hid (B2.out.trans (h3.mono B2.out.size))
    clear h3
    go_wp2_with fail
    refine (HD.out _ (HS.out.below B3.out)).mono ?_
    rintro e w4 ⟨rfl, h4⟩
    have B4 := Lib.hid (B3.out.trans (h4.mono B3.out.size))
    clear h4
    go_wp2_with fail
    go_ret3
    exact ⟨rfl, B4.out⟩
theorem divW_any (x y : Int) (w : World) (hs : Std w) (hx : (str x.natAbs).size ≤ 400000) (hy : (str y.natAbs).size ≤ 400000) (hy0 : y ≠ 0) :
    Calls Tryz.prog 41 #[.string (zS x), .string (zS y)] w fun e w' => e = .returned (.tuple #[.string (zS (x.fdiv y)), .string (zS (x.fmod y)), .int .i64 0]) ∧ Below w.heap.size w w' := by
  cases hf : (fewB x && fewB y) with
  | false => exact divW_far x y w hs hx hy hf hy0
  | true =>
    have h := divW_few x y w hs hf hy0
    rw [(dn_eq x hy0).1, (dn_eq x hy0).2] at h
    exact h
end Go.Proofs.YtjebddpapbopnaaGreatDoor

namespace Go.Proofs.YtjebddpapbopnaaGreatDoor
open Go.RowKit

theorem abs_sub_mul {f x : Int} (q : Nat) (h : f * x ≤ 0) : (f - (q : Int) * x).natAbs = f.natAbs + q * x.natAbs := by
  have hq : (0 : Int) ≤ (q : Int) := by omega
  rcases (by omega : x = 0 ∨ 0 < x ∨ x < 0) with hx | hx | hx
  · subst hx; simp
  · have hf : f ≤ 0 := by
      apply Classical.byContradiction; intro hn
      have := Int.mul_pos (show 0 < f by omega) hx; omega
    have h1 : 0 ≤ (q : Int) * x := Int.mul_nonneg hq (by omega)
    have h2 : ((q * x.natAbs : Nat) : Int) = (q : Int) * x := by push_cast; rw [show ((x.natAbs : Int)) = x by omega]
    omega
  · have hf : 0 ≤ f := by
      apply Classical.byContradiction; intro hn
      have := Int.mul_pos_of_neg_of_neg (show f < 0 by omega) hx; omega
    have h1 : (q : Int) * x ≤ 0 := Int.mul_nonpos_of_nonneg_of_nonpos hq (by omega)
    have h2 : ((q * x.natAbs : Nat) : Int) = -((q : Int) * x) := by push_cast; rw [show ((x.natAbs : Int)) = -x by omega, Int.mul_neg]
    omega
/-- what holds at the head of Euclid's loop -/
structure BzI (m n : Int) (A B : Nat) (f x : Int) : Prop where
  apos : 0 < A
  gcd : Nat.gcd A B = Nat.gcd m.natAbs n.natAbs
  cf : m ∣ f * n - A
  cx : m ∣ x * n - B
  mag : f.natAbs * B + x.natAbs * A = m.natAbs
  sign : f * x ≤ 0
  fb : f.natAbs ≤ m.natAbs
theorem BzI.start {m n : Nat} (h : 0 < m) : BzI m n m n 0 1 :=
  ⟨h, rfl, ⟨-1, by omega⟩, ⟨0, by omega⟩, by simp, by simp, by simp⟩
theorem BzI.ab {m n : Int} {A B : Nat} {f x : Int} (h : BzI m n A B f x) : x.natAbs ≤ m.natAbs := by
  have h1 := h.mag
  have h2 : x.natAbs * 1 ≤ x.natAbs * A := Nat.mul_le_mul_left _ h.apos
  omega
theorem BzI.step {m n : Int} {A B : Nat} {f x : Int} (h : BzI m n A B f x) (hB : 0 < B) : BzI m n B (A % B) x (f - ((A / B : Nat) : Int) * x) := by
  obtain ⟨h1, h2, ⟨k, h3⟩, ⟨l, h4⟩, h5, h6, h7⟩ := h
  have hq : A = B * (A / B) + A % B := (Nat.div_add_mod A B).symm
  obtain ⟨q, hq'⟩ : ∃ q, q = A / B := ⟨_, rfl⟩
  obtain ⟨r, hr'⟩ : ∃ r, r = A % B := ⟨_, rfl⟩
  have hm := abs_sub_mul q h6
  have hg : Nat.gcd B (A % B) = Nat.gcd A B := by rw [Nat.gcd_comm B (A % B), ← Nat.gcd_rec B A, Nat.gcd_comm]
  rw [← hq', ← hr'] at hq
  rw [← hr'] at hg
  rw [← hq', ← hr']
  refine ⟨hB, hg.trans h2, ⟨l, h4⟩, ⟨k - (q : Int) * l, ?_⟩, ?_, ?_, ?_⟩
  · have e1 : (f - (q : Int) * x) * n - (r : Int) = (f * n - (A : Int)) - (q : Int) * (x * n - (B : Int)) := by
      have hA : (A : Int) = (B : Int) * (q : Int) + (r : Int) := by rw [hq]; push_cast; rfl
      rw [Int.sub_mul, Int.mul_sub, Int.mul_assoc, hA, Int.mul_comm (B : Int) (q : Int)]; omega
    rw [e1, h3, h4, Int.mul_sub, Int.mul_left_comm]
  · rw [hm, Nat.add_mul]
    have e2 : x.natAbs * A = x.natAbs * (B * q) + x.natAbs * r := by rw [hq, Nat.mul_add]
    have e3 : q * x.natAbs * B = x.natAbs * (B * q) := by rw [Nat.mul_comm q, Nat.mul_assoc, Nat.mul_comm q B]
    omega
  · rw [Int.mul_sub]
    have e4 : x * ((q : Int) * x) = (q : Int) * (x * x) := by rw [Int.mul_left_comm]
    have e5 : 0 ≤ (q : Int) * (x * x) := Int.mul_nonneg (by omega) (by
      rcases (by omega : 0 ≤ x ∨ x ≤ 0) with hx | hx
      · exact Int.mul_nonneg hx hx
      · exact Int.mul_nonneg_of_nonpos_of_nonpos hx hx)
    rw [e4, Int.mul_comm x f]; omega
  · have h2 : x.natAbs * 1 ≤ x.natAbs * A := Nat.mul_le_mul_left _ h1
    omega
/-- the least number that makes the number times it the divisor, modulo m -/
def IsX (m n x : Int) : Prop := 0 ≤ x ∧ x < ((m.natAbs / Nat.gcd m.natAbs n.natAbs : Nat) : Int) ∧ m ∣ x * n - ((Nat.gcd m.natAbs n.natAbs : Nat) : Int)
theorem BzI.done {m n : Int} {A : Nat} {f x : Int} (h : BzI m n A 0 f x) : A = Nat.gcd m.natAbs n.natAbs ∧ 0 < m.natAbs / A ∧ IsX m n (f.fmod ((m.natAbs / A : Nat) : Int)) := by
  have hA : A = Nat.gcd m.natAbs n.natAbs := by rw [← h.gcd, Nat.gcd_zero_right]
  have hmg := h.mag
  have hx : m.natAbs / A = x.natAbs := by
    rw [← hmg, Nat.mul_zero, Nat.zero_add]; exact Nat.mul_div_cancel _ h.apos
  have hmp : 0 < m.natAbs := by
    rcases Nat.eq_zero_or_pos m.natAbs with hz | hz
    · have hfb := h.fb
      exfalso
      have h3 := h.cx
      have h4 := h.cf
      have hm0 : m = 0 := by omega
      have hx0 : x.natAbs * A = 0 := by omega
      have hf0 : f = 0 := by omega
      rw [hm0] at h4
      have h5 := Int.zero_dvd.1 h4
      rw [hf0] at h5
      have := h.apos
      omega
    · exact hz
  have hgd : A ∣ m.natAbs := by rw [hA]; exact Nat.gcd_dvd_left _ _
  have hnd : A ∣ n.natAbs := by rw [hA]; exact Nat.gcd_dvd_right _ _
  have hP : 0 < m.natAbs / A := Nat.div_pos (Nat.le_of_dvd hmp hgd) h.apos
  refine ⟨hA, hP, ?_⟩
  obtain ⟨P, hPe⟩ : ∃ P, P = m.natAbs / A := ⟨_, rfl⟩
  have hm : m.natAbs = A * P := by rw [hPe]; exact (Nat.mul_div_cancel' hgd).symm
  unfold IsX
  rw [← hA, ← hPe]
  rw [← hPe] at hP
  have hr := fl_range f (y := (P : Int)) (by omega)
  refine ⟨by omega, by omega, ?_⟩
  have hfm := Int.fmod_def f (P : Int)
  rw [hfm, Int.sub_mul]
  have e1 : f * n - (P : Int) * f.fdiv (P : Int) * n - (A : Int) = (f * n - (A : Int)) - (P : Int) * f.fdiv (P : Int) * n := by omega
  rw [e1]
  refine Int.dvd_sub h.cf ?_
  obtain ⟨t, ht⟩ := hnd
  have hn2 : (A : Int) ∣ n := Int.natAbs_dvd_natAbs.1 (by rw [Int.natAbs_natCast]; exact ⟨t, ht⟩)
  obtain ⟨u, hu⟩ := hn2
  have hm2 : m ∣ ((A * P : Nat) : Int) := Int.natAbs_dvd_natAbs.1 (by rw [Int.natAbs_natCast, hm]; exact Nat.dvd_refl _)
  obtain ⟨v, hv⟩ := hm2
  refine ⟨v * (f.fdiv (P : Int) * u), ?_⟩
  rw [← Int.mul_assoc m v, ← hv, hu]
  push_cast
  rw [Int.mul_assoc, Int.mul_left_comm _ (A : Int) u, ← Int.mul_assoc (P : Int) (A : Int), Int.mul_comm (P : Int) (A : Int)]
theorem IsX.unique {m n x y : Int} (hm : m ≠ 0) (hx : IsX m n x) (hy : IsX m n y) : x = y := by
  obtain ⟨a1, a2, a3⟩ := hx
  obtain ⟨b1, b2, b3⟩ := hy
  have h := Int.dvd_sub a3 b3
  rw [show x * n - ((Nat.gcd m.natAbs n.natAbs : Nat) : Int) - (y * n - ((Nat.gcd m.natAbs n.natAbs : Nat) : Int)) = (x - y) * n by rw [Int.sub_mul]; omega] at h
  have h2 := Int.natAbs_dvd_natAbs.2 h
  rw [Int.natAbs_mul] at h2
  have hg : 0 < Nat.gcd m.natAbs n.natAbs := Nat.gcd_pos_of_pos_left _ (by omega)
  have h3 : m.natAbs / Nat.gcd m.natAbs n.natAbs ∣ (x - y).natAbs * (n.natAbs / Nat.gcd m.natAbs n.natAbs) := by
    have e : (x - y).natAbs * n.natAbs = ((x - y).natAbs * (n.natAbs / Nat.gcd m.natAbs n.natAbs)) * Nat.gcd m.natAbs n.natAbs := by
      rw [Nat.mul_assoc, Nat.div_mul_cancel (Nat.gcd_dvd_right _ _)]
    rw [e] at h2
    exact Nat.dvd_of_mul_dvd_mul_right hg (by rw [Nat.div_mul_cancel (Nat.gcd_dvd_left _ _)]; exact h2)
  have hc : Nat.Coprime (m.natAbs / Nat.gcd m.natAbs n.natAbs) (n.natAbs / Nat.gcd m.natAbs n.natAbs) := Nat.coprime_div_gcd_div_gcd hg
  have h4 := hc.dvd_of_dvd_mul_right h3
  have h5 : (x - y).natAbs = 0 := Nat.eq_zero_of_dvd_of_lt h4 (by omega)
  omega
/-- Bezout's numbers -/
structure IsBz (a b x y : Int) : Prop where
  none : b = 0 → x = sgnI a ∧ y = 0
  some : b ≠ 0 → IsX b a x
  sum : a * x + b * y = ((Nat.gcd a.natAbs b.natAbs : Nat) : Int)
theorem IsBz.unique {a b x y x' y' : Int} (h : IsBz a b x y) (h' : IsBz a b x' y') : x = x' ∧ y = y' := by
  by_cases hb : b = 0
  · obtain ⟨h1, h2⟩ := h.none hb
    obtain ⟨h3, h4⟩ := h'.none hb
    omega
  · have h1 := IsX.unique hb (h.some hb) (h'.some hb)
    have h2 := h.sum
    have h3 := h'.sum
    rw [← h1] at h3
    have h4 : b * y = b * y' := by omega
    exact ⟨h1, Int.eq_of_mul_eq_mul_left hb h4⟩
end Go.Proofs.YtjebddpapbopnaaGreatDoor

namespace Go.Proofs.YtjebddpapbopnaaGreatDoor
open Go.RowKit

def negB (s : ByteArray) : Bool := s.data.toList.head? == some 45
def magB (s : ByteArray) : ByteArray := if negB s = true then s.extract 1 s.size else s
theorem negB_at {s : ByteArray} (h : 0 < s.size) : negB s = (((s[0]'h).toNat : Int) == 45) := by
  have e := at_list s 0 h
  have hl : s.data.toList ≠ [] := by intro q; have := len_list s; rw [q] at this; simp at this; omega
  have e2 : s.data.toList.head? = some (s[0]'h) := by
    rw [List.head?_eq_getElem?, List.getElem?_eq_getElem (by rw [len_list]; exact h), e]
  unfold negB
  rw [e2, Bool.eq_iff_iff, beq_iff_eq, beq_iff_eq]
  constructor
  · intro q; have := Option.some.inj q; rw [this]; rfl
  · intro q
    have : s[0] = 45 := UInt8.toNat_inj.1 (by show _ = 45; omega)
    rw [this]
theorem negB_nil {s : ByteArray} (h : s.size = 0) : negB s = false := by
  have := len_list s
  rw [h] at this
  unfold negB
  rw [List.length_eq_zero_iff.1 this]; rfl
theorem magB_len {s : ByteArray} : (magB s).size ≤ s.size := by
  unfold magB
  split
  · rw [ByteArray.size_extract]; omega
  · exact Nat.le_refl _
theorem negB_zS (z : Int) : negB (zS z) = decide (z < 0) := by
  by_cases h : z < 0
  · rw [zS_neg h, negB_at (negS _).pos, (negS _).hd, decide_eq_true h]; rfl
  · rw [zS_pos h, negB_at (str_pos _), decide_eq_false h, beq_eq_false_iff_ne]; exact str_hd _
theorem magB_zS (z : Int) : magB (zS z) = str z.natAbs := by
  unfold magB
  rw [negB_zS]
  by_cases h : z < 0
  · rw [decide_eq_true h, if_pos rfl, zS_neg h, (negS _).tl]
  · rw [decide_eq_false h, if_neg (by decide), zS_pos h]
set_option maxHeartbeats 800000 in
theorem splitG_any (s : ByteArray) (w : World) (hs : s.size ≤ 1000001) :
    Calls Tryz.prog 51 #[.string s] w fun e w' => e = .returned (.tuple #[.bool (negB s), .string (magB s)]) ∧ Below w.heap.size w w' := by
  by_cases h0 : s.size = 0
  · have hn := negB_nil h0
    have HM := Lib.hid (show magB s = s by unfold magB; rw [hn]; rfl)
    have HN := Lib.hid hn
    have hp : ¬ (0 : Int) < s.size := by omega
    clear hn h0
    go_enter Tryz.func51, Tryz.ntmps51
    go_wp2_with fail
    go_ret2
    exact ⟨by rw [HM.out, HN.out]; rfl, Below.refl _ _⟩
  · have h0' : 0 < s.size := by omega
    have hn := negB_at h0'
    have hp : (0 : Int) < s.size := by omega
    have h1' : 1 ≤ s.size := h0'
    cases hb : (((s[0]'h0').toNat : Int) == 45) with
    | true =>
      rw [hb] at hn
      have HM := Lib.hid (show magB s = s.extract 1 s.size by unfold magB; rw [hn]; rfl)
      have HN := Lib.hid hn
      clear hn h0
      go_enter Tryz.func51, Tryz.ntmps51
      go_wp2_with fail
      go_quiet (fail)
      go_wp2_with fail
      go_ret2
      exact ⟨by rw [HM.out, HN.out]; rfl, below_drewN (Below.refl _ _) _⟩
    | false =>
      rw [hb] at hn
      have HM := Lib.hid (show magB s = s by unfold magB; rw [hn]; rfl)
      have HN := Lib.hid hn
      clear hn h0
      go_enter Tryz.func51, Tryz.ntmps51
      go_wp2_with fail
      go_ret2
      exact ⟨by rw [HM.out, HN.out]; rfl, Below.refl _ _⟩
def zCan (s : ByteArray) : Bool := canonL (magB s).data.toList && !(negB s && ((magB s).toList == [48]))
theorem zCan_yes {s : ByteArray} (h : zCan s = true) : ∃ z, s = zS z := by
  unfold zCan at h
  rw [Bool.and_eq_true, Bool.not_eq_true', Bool.and_eq_false_iff] at h
  obtain ⟨h1, h2⟩ := h
  have e := str_of h1
  cases hn : negB s with
  | false =>
    have hm : magB s = s := by unfold magB; rw [hn]; rfl
    rw [hm] at e
    exact ⟨((val s.data.toList : Nat) : Int), by rw [zS_of_nat]; exact e⟩
  | true =>
    have hm : magB s = s.extract 1 s.size := by unfold magB; rw [hn]; rfl
    have h0 : 0 < s.size := by
      rcases Nat.eq_zero_or_pos s.size with hz | hz
      · rw [negB_nil hz] at hn; cases hn
      · exact hz
    rcases h2 with h2 | h2
    · rw [hn] at h2; cases h2
    · obtain ⟨n, hnn⟩ : ∃ n, n = val (magB s).data.toList := ⟨_, rfl⟩
      rw [← hnn] at e
      have hn0 : n ≠ 0 := by
        intro hz
        rw [e, hz, str_tl, dd0] at h2; simp at h2
      refine ⟨-(n : Int), ?_⟩
      rw [zS_of_neg n hn0, ← e, hm]
      have hat := negB_at h0
      rw [hn] at hat
      have h45 : (s[0]'h0) = 45 := by
        have := beq_iff_eq.1 hat.symm
        exact UInt8.toNat_inj.1 (by show _ = 45; omega)
      apply ByteArray.ext
      rw [ByteArray.data_append, ByteArray.data_extract]
      apply Array.toList_inj.1
      rw [Array.toList_append, Array.toList_extract]
      have hl := len_list s
      have hg := at_list s 0 h0
      rw [h45] at hg
      cases hq : s.data.toList with
      | nil => rw [hq] at hl; simp at hl; omega
      | cons c l =>
        rw [hq] at hl
        have hc : c = 45 := by rw [← hg]; simp [hq]
        rw [hc]
        simp [List.extract]
        rw [List.take_of_length_le]; simp at hl; omega
theorem zCan_zS (z : Int) : zCan (zS z) = true := by
  unfold zCan
  rw [negB_zS, magB_zS, canon_str]
  by_cases h : z < 0
  · rw [decide_eq_true h, tl_ne (str_not48 (by omega))]; rfl
  · rw [decide_eq_false h]; rfl
set_option maxHeartbeats 800000 in
theorem canonW_any (s : ByteArray) (w : World) (hs : s.size ≤ 1000001) :
    Calls Tryz.prog 54 #[.string s] w fun e w' => e = .returned (.bool (zCan s)) ∧ Below w.heap.size w w' := by
  have HS := Lib.hid (fun wx => splitG_any s wx hs)
  have hl := magB_len (s := s)
  have HC := Lib.hid (fun wx => canonical_any (magB s) wx (by omega))
  have HV := Lib.hid (show zCan s = (canonL (magB s).data.toList && !(negB s && ((magB s).toList == [48]))) from rfl)
  obtain ⟨c, hc⟩ : ∃ c, c = canonL (magB s).data.toList := ⟨_, rfl⟩
  obtain ⟨n, hn⟩ : ∃ n, n = negB s := ⟨_, rfl⟩
  obtain ⟨m, hm⟩ : ∃ m, m = magB s := ⟨_, rfl⟩
  obtain ⟨V, hV⟩ : ∃ V, V = zCan s := ⟨_, rfl⟩
  rw [← hc] at HC HV
  rw [← hm] at HS HC HV
  rw [← hn] at HS HV
  rw [← hV] at HV ⊢
  clear hc hn hm hV hl hs
  cases c
  · go_enter Tryz.func54, Tryz.ntmps54
    go_wp2_with fail
    refine (HS.out _).mono ?_
    rintro e w1 ⟨rfl, h1⟩
    have B1 := Lib.hid h1
    clear h1
    go_wp2_with fail
    refine (HC.out _).mono ?_
    rintro e w2 ⟨rfl, rfl⟩
    go_wp2_with fail
    go_ret
    exact ⟨by rw [HV.out]; rfl, B1.out⟩
  · cases n
    · go_enter Tryz.func54, Tryz.ntmps54
      go_wp2_with fail
      refine (HS.out _).mono ?_
      rintro e w1 ⟨rfl, h1⟩
      have B1 := Lib.hid h1
      clear h1
      go_wp2_with fail
      refine (HC.out _).mono ?_
      rintro e w2 ⟨rfl, rfl⟩
      go_wp2_with fail
      go_ret
      exact ⟨by rw [HV.out]; rfl, B1.out⟩
    · cases hz : (m.toList == [48])
      · rw [hz] at HV
        go_enter Tryz.func54, Tryz.ntmps54
        go_wp2_with fail
        refine (HS.out _).mono ?_
        rintro e w1 ⟨rfl, h1⟩
        have B1 := Lib.hid h1
        clear h1
        go_wp2_with fail
        refine (HC.out _).mono ?_
        rintro e w2 ⟨rfl, rfl⟩
        go_wp2_with fail
        go_ret
        exact ⟨by rw [HV.out]; rfl, B1.out⟩
      · rw [hz] at HV
        go_enter Tryz.func54, Tryz.ntmps54
        go_wp2_with fail
        refine (HS.out _).mono ?_
        rintro e w1 ⟨rfl, h1⟩
        have B1 := Lib.hid h1
        clear h1
        go_wp2_with fail
        refine (HC.out _).mono ?_
        rintro e w2 ⟨rfl, rfl⟩
        go_wp2_with fail
        go_ret
        exact ⟨by rw [HV.out]; rfl, B1.out⟩
set_option maxHeartbeats 400000 in
theorem absG_any (s : ByteArray) (w : World) (hs : s.size ≤ 1000001) :
    Calls Tryz.prog 30 #[.string s] w fun e w' => e = .returned (.string (magB s)) ∧ Below w.heap.size w w' := by
  have HX := Lib.hid (fun wx => splitG_any s wx hs)
  obtain ⟨m, hm⟩ : ∃ m, m = magB s := ⟨_, rfl⟩
  obtain ⟨n, hn⟩ : ∃ n, n = negB s := ⟨_, rfl⟩
  rw [← hm] at HX ⊢
  rw [← hn] at HX
  clear hs hm hn
  go_enter Tryz.func30, Tryz.ntmps30
  go_wp2_with fail
  refine (HX.out _).mono ?_
  rintro e w1 ⟨rfl, h1⟩
  have B1 := Lib.hid h1
  clear h1
  go_wp2_with fail
  go_ret
  exact ⟨rfl, B1.out⟩
set_option maxHeartbeats 400000 in
theorem digitsN_any (s : ByteArray) (w : World) :
    Calls Tryz.prog 55 #[.string s] w fun e w' => e = .returned (.int .i64 s.size) ∧ w = w' := by
  go_enter Tryz.func55, Tryz.ntmps55
  go_wp2
  go_ret
  exact ⟨rfl, rfl⟩
def chkZ (s : ByteArray) : Int := if zCan s = true ∧ (magB s).size ≤ 400 then 0 else 2
set_option maxHeartbeats 800000 in
theorem checkW_any (s : ByteArray) (w : World) (hs : s.size ≤ 1000001) :
    Calls Tryz.prog 18 #[.string s] w fun e w' => e = .returned (.int .i64 (chkZ s)) ∧ Below w.heap.size w w' := by
  have HC := Lib.hid (fun wx => canonW_any s wx hs)
  have HA := Lib.hid (fun wx => absG_any s wx hs)
  have hl := magB_len (s := s)
  have HD := Lib.hid (fun wx => digitsN_any (magB s) wx)
  have hV : chkZ s = if zCan s = true ∧ (magB s).size ≤ 400 then 0 else 2 := rfl
  obtain ⟨c, hc⟩ : ∃ c, c = zCan s := ⟨_, rfl⟩
  obtain ⟨m, hm⟩ : ∃ m, m = magB s := ⟨_, rfl⟩
  obtain ⟨V, hVV⟩ : ∃ V, V = chkZ s := ⟨_, rfl⟩
  rw [← hc] at HC hV
  rw [← hm] at HA HD hV hl
  rw [← hVV] at hV ⊢
  clear hc hm hVV
  cases c
  · have HV := Lib.hid (show V = 2 by rw [hV]; rfl)
    clear hV hl hs HA HD
    go_enter Tryz.func18, Tryz.ntmps18
    go_wp2_with fail
    refine (HC.out _).mono ?_
    rintro e w1 ⟨rfl, h1⟩
    have B1 := Lib.hid h1
    clear h1
    go_wp2_with fail
    go_ret
    exact ⟨by rw [HV.out]; rfl, B1.out⟩
  · by_cases h4 : m.size ≤ 400
    · have HV := Lib.hid (show V = 0 by rw [hV, if_pos ⟨rfl, h4⟩])
      have hd : decide ((400 : Int) < m.size) = false := decide_eq_false (by omega)
      clear hV hl hs h4
      go_enter Tryz.func18, Tryz.ntmps18
      go_wp2_with fail
      refine (HC.out _).mono ?_
      rintro e w1 ⟨rfl, h1⟩
      have B1 := Lib.hid h1
      clear h1
      go_wp2_with fail
      refine (HA.out _).mono ?_
      rintro e w2 ⟨rfl, h2⟩
      have B2 := Lib.hid (B1.out.trans (h2.mono B1.out.size))
      clear h2
      go_wp2_with fail
      refine (HD.out _).mono ?_
      rintro e w3 ⟨rfl, rfl⟩
      go_wp2_with fail
      go_ret
      exact ⟨by rw [HV.out]; rfl, B2.out⟩
    · have HV := Lib.hid (show V = 2 by rw [hV, if_neg (fun q => h4 q.2)])
      have hd : decide ((400 : Int) < m.size) = true := decide_eq_true (by omega)
      clear hV hl hs h4
      go_enter Tryz.func18, Tryz.ntmps18
      go_wp2_with fail
      refine (HC.out _).mono ?_
      rintro e w1 ⟨rfl, h1⟩
      have B1 := Lib.hid h1
      clear h1
      go_wp2_with fail
      refine (HA.out _).mono ?_
      rintro e w2 ⟨rfl, h2⟩
      have B2 := Lib.hid (B1.out.trans (h2.mono B1.out.size))
      clear h2
      go_wp2_with fail
      refine (HD.out _).mono ?_
      rintro e w3 ⟨rfl, rfl⟩
      go_wp2_with fail
      go_ret
      exact ⟨by rw [HV.out]; rfl, B2.out⟩
end Go.Proofs.YtjebddpapbopnaaGreatDoor

namespace Go.Proofs.YtjebddpapbopnaaGreatDoor
open Go.RowKit

theorem lcmD_any (a b : Nat) (w : World) (hs : Std w) (ha : (str a).size ≤ 400000) (hb : (str b).size ≤ 400000) :
    Calls Tryz.prog 81 #[.string (str a), .string (str b)] w fun e w' => e = .returned (.string (str (a / Nat.gcd a b * b))) ∧ Below w.heap.size w w' := by
  by_cases h : a = 0 ∨ b = 0
  · have hz : a / Nat.gcd a b * b = 0 := by rcases h with rfl | rfl <;> simp
    have e : (⟨#[48]⟩ : ByteArray) = str 0 := str_eq 0 (by decide) (by decide)
    rw [hz, ← e]
    exact lcm_zero a b w h
  · exact lcm_any a b w hs ha hb (by omega) (by omega)
def lcmZ (x y : Int) : Nat := x.natAbs / Nat.gcd x.natAbs y.natAbs * y.natAbs
set_option maxHeartbeats 800000 in
theorem lcmW_any (x y : Int) (w : World) (hs : Std w) (hx : (str x.natAbs).size ≤ 400000) (hy : (str y.natAbs).size ≤ 400000) :
    Calls Tryz.prog 47 #[.string (zS x), .string (zS y)] w fun e w' => e = .returned (.string (str (lcmZ x y))) ∧ Below w.heap.size w w' := by
  have HX := Lib.hid (fun wx => abs_any x wx (by omega))
  have HY := Lib.hid (fun wx => abs_any y wx (by omega))
  have HG := Lib.hid (fun wx hw => lcmD_any x.natAbs y.natAbs wx hw (by omega) (by omega))
  have HS := Lib.hid hs
  obtain ⟨s, hs2⟩ : ∃ s, s = zS x := ⟨_, rfl⟩
  obtain ⟨t, ht⟩ : ∃ t, t = zS y := ⟨_, rfl⟩
  obtain ⟨p, hp⟩ : ∃ p, p = str x.natAbs := ⟨_, rfl⟩
  obtain ⟨q, hq⟩ : ∃ q, q = str y.natAbs := ⟨_, rfl⟩
  have HV := Lib.hid (show lcmZ x y = x.natAbs / Nat.gcd x.natAbs y.natAbs * y.natAbs from rfl)
  rw [HV.out]
  obtain ⟨g, hg⟩ : ∃ g, g = str (x.natAbs / Nat.gcd x.natAbs y.natAbs * y.natAbs) := ⟨_, rfl⟩
  rw [← hs2] at HX ⊢
  rw [← ht] at HY ⊢
  rw [← hp] at HX HG
  rw [← hq] at HY HG
  rw [← hg] at HG ⊢
  clear hs hx hy hs2 ht hp hq hg
  go_enter Tryz.func47, Tryz.ntmps47
  go_wp2_with fail
  refine (HX.out _).mono ?_
  rintro e w1 ⟨rfl, h1⟩
  have B1 := Lib.hid h1
  clear h1
  go_wp2_with fail
  refine (HY.out _).mono ?_
  rintro e w2 ⟨rfl, h2⟩
  have B2 := Lib.hid (B1.out.trans (h2.mono B1.out.size))
  clear h2
  go_wp2_with fail
  refine (HG.out _ (HS.out.below B2.out)).mono ?_
  rintro e w3 ⟨rfl, h3⟩
  have B3 := Lib.hid (B2.out.trans (h3.mono B2.out.size))
  clear h3
  go_wp2_with fail
  go_ret
  exact ⟨rfl, B3.out⟩
end Go.Proofs.YtjebddpapbopnaaGreatDoor
