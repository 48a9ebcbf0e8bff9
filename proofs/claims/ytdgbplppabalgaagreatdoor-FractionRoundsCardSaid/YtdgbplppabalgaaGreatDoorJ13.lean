/-
  Texts of one seat, joined: ZPar ZParR ZSmR ZMake ZSum ZKnown ZRef ZCmpR ZBox ZPz YWh.
-/
import Derived.Test.YtdgbplppabalgaaGreatDoorJ12
import Derived.Test.YtdgbplppabalgaaGreatDoorShelf2
import Derived.Test.YtdgbplppabalgaaGreatDoorJ3
import Derived.Test.YtdgbplppabalgaaGreatDoorJ4
import Derived.Deep.RegionWith
import Derived.Deep.Cut
import Derived.Deep.DeepCutAuto
import Derived.OwnWalk
import Derived.Laws.OwnMore
import Derived.OneCell
namespace Go.Proofs.YtdgbplppabalgaaGreatDoor
open Go.RowKit

def parV (s : ByteArray) : ByteArray × Int :=
  if s.size = 0 then (⟨#[]⟩, 13) else if (magB s).size = 0 ∨ (magB s).data.toList.all isD = false then (⟨#[]⟩, 15) else
  if 400 < (str (val (magB s).data.toList)).size then (⟨#[]⟩, 4) else (zS (if negB s = true then -((val (magB s).data.toList : Nat) : Int) else ((val (magB s).data.toList : Nat) : Int)), 0)
theorem parV_nil {s : ByteArray} (h : s.size = 0) : parV s = (⟨#[]⟩, 13) := if_pos h
theorem parV_bad {s : ByteArray} (h : ¬ s.size = 0) (h2 : (magB s).size = 0 ∨ (magB s).data.toList.all isD = false) : parV s = (⟨#[]⟩, 15) := by
  unfold parV; rw [if_neg h, if_pos h2]
theorem parV_long {s : ByteArray} (h : ¬ s.size = 0) (h2 : ¬ ((magB s).size = 0 ∨ (magB s).data.toList.all isD = false)) (h3 : 400 < (str (val (magB s).data.toList)).size) : parV s = (⟨#[]⟩, 4) := by
  unfold parV; rw [if_neg h, if_neg h2, if_pos h3]
theorem parV_ok {s : ByteArray} (h : ¬ s.size = 0) (h2 : ¬ ((magB s).size = 0 ∨ (magB s).data.toList.all isD = false)) (h3 : ¬ 400 < (str (val (magB s).data.toList)).size) : parV s = (zS (if negB s = true then -((val (magB s).data.toList : Nat) : Int) else ((val (magB s).data.toList : Nat) : Int)), 0) := by
  unfold parV; rw [if_neg h, if_neg h2, if_neg h3]
theorem nil_tl {s : ByteArray} : (s.toList == []) = decide (s.size = 0) := by
  rw [tl]
  have hl := len_list s
  by_cases h : s.size = 0
  · rw [decide_eq_true h, beq_iff_eq]; rw [h] at hl; exact List.length_eq_zero_iff.1 hl
  · rw [decide_eq_false h, beq_eq_false_iff_ne]; intro q; rw [q] at hl; simp at hl; omega
theorem all_take_next {s : ByteArray} {k : Nat} (h : k < s.size) (ha : (s.data.toList.take k).all isD = true) (hd : isD (s[k]'h) = true) : (s.data.toList.take (k + 1)).all isD = true := by
  rw [List.take_add_one, List.getElem?_eq_getElem (by rw [len_list]; exact h), at_list s k h, Option.toList_some, List.all_append, ha]
  simp [hd]
theorem not_all {s : ByteArray} {k : Nat} (h : k < s.size) (hd : isD (s[k]'h) = false) : s.data.toList.all isD = false := by
  cases ha : s.data.toList.all isD with
  | false => rfl
  | true =>
    have hm : (s[k]'h) ∈ s.data.toList := by rw [← at_list s k h]; exact List.getElem_mem _
    have := List.all_eq_true.1 ha _ hm
    rw [hd] at this; cases this
theorem isD_no {c : UInt8} (h : isD c = false) : c.toNat < 48 ∨ (48 ≤ c.toNat ∧ 57 < c.toNat) := by
  simp [isD] at h; omega
theorem drop0_zero {l : List UInt8} (h : l.all isD = true) (hv : val l = 0) : l.dropWhile (· == 48) = [] := by
  cases e : l.dropWhile (· == 48) with
  | nil => rfl
  | cons c m =>
    have h1 := all_drop0 l h
    have h2 := val_drop0 l
    have h3 := head_drop0 l
    rw [e] at h1 h2 h3
    rw [hv, val_cons] at h2
    simp only [List.all_cons, Bool.and_eq_true] at h1
    have h4 := isD_lt h1.1
    have h5 : c.toNat - 48 ≠ 0 := by
      intro q
      have : c = 48 := UInt8.toNat_inj.1 (by show _ = 48; omega)
      rw [this] at h3; simp at h3
    have h6 : 0 < 10 ^ m.length := Nat.pow_pos (by decide)
    have h7 : 1 * 10 ^ m.length ≤ (c.toNat - 48) * 10 ^ m.length := Nat.mul_le_mul_right _ (by omega)
    omega
theorem trim_val {s : ByteArray} (h : s.data.toList.all isD = true) : (⟨(Lib.trimLeftB s.data.toList 48).toArray⟩ : ByteArray) = if val s.data.toList = 0 then ⟨#[]⟩ else str (val s.data.toList) := by
  unfold Lib.trimLeftB
  by_cases hv : val s.data.toList = 0
  · rw [if_pos hv, drop0_zero h hv]
  · rw [if_neg hv, canon_drop0 h (by omega)]; rfl
theorem val_size (s : ByteArray) : val s.data.toList < 10 ^ s.size ∨ s.data.toList.all isD = false := by
  cases h : s.data.toList.all isD with
  | false => exact .inr rfl
  | true => left; have := val_lt _ h; rw [len_list] at this; exact this
set_option maxHeartbeats 3200000 in
set_option maxRecDepth 100000 in
theorem parW_any (s : ByteArray) (w : World) (hs : s.size ≤ 100000) :
    Calls Tryz.prog 81 #[.string s] w fun e w' => e = .returned (.tuple #[.string (parV s).1, .int .i64 (parV s).2]) ∧ Below w.heap.size w w' := by
  by_cases h0 : s.size = 0
  · have HV := Lib.hid (parV_nil h0)
    have hn : (s.toList == []) = true := by rw [nil_tl]; exact decide_eq_true h0
    obtain ⟨V, hV⟩ : ∃ V, V = parV s := ⟨_, rfl⟩
    rw [← hV] at HV ⊢
    clear hV h0 hs
    go_enter Tryz.func81, Tryz.ntmps81
    go_wp2_with fail
    go_ret2
    exact ⟨by rw [HV.out]; rfl, Below.refl _ _⟩
  · have hn : (s.toList == []) = false := by rw [nil_tl]; exact decide_eq_false h0
    have HX := Lib.hid (fun wx => splitG_any s wx (by omega))
    have hml := magB_len (s := s)
    have HBAD := Lib.hid (fun h => parV_bad (s := s) h0 h)
    have HLONG := Lib.hid (fun h => parV_long (s := s) h0 h)
    have HOK := Lib.hid (fun h => parV_ok (s := s) h0 h)
    obtain ⟨V, hV⟩ : ∃ V, V = parV s := ⟨_, rfl⟩
    obtain ⟨m, hm⟩ : ∃ m, m = magB s := ⟨_, rfl⟩
    obtain ⟨N, hN⟩ : ∃ N, N = negB s := ⟨_, rfl⟩
    rw [← hV, ← hm] at HBAD HLONG HOK
    rw [← hN] at HOK
    rw [← hV]
    rw [← hm] at hml
    rw [← hm, ← hN] at HX
    clear hV hm hN h0
    by_cases hm0 : m.size = 0
    · have hmn : (m.toList == []) = true := by rw [nil_tl]; exact decide_eq_true hm0
      have HV := Lib.hid (HBAD.out (.inl hm0))
      clear hm0
      go_enter Tryz.func81, Tryz.ntmps81
      go_wp2_with fail
      refine (HX.out _).mono ?_
      rintro e w1 ⟨rfl, h1⟩
      have B1 := Lib.hid h1
      clear h1
      go_wp2_with fail
      go_ret2
      exact ⟨by rw [HV.out]; rfl, B1.out⟩
    · have hmn : (m.toList == []) = false := by rw [nil_tl]; exact decide_eq_false hm0
      go_enter Tryz.func81, Tryz.ntmps81
      go_wp2_with fail
      refine (HX.out _).mono ?_
      rintro e w1 ⟨rfl, h1⟩
      have B1 := Lib.hid h1
      clear h1
      go_wp2_with fail
      go_loop [6, 19] (fun _ iv => ∃ k : Nat, iv = .int .i64 k ∧ k ≤ m.size ∧ Hid ((m.data.toList.take k).all isD = true)) (fun _ iv => m.size - (intOf iv).toNat)
      case atStart => exact ⟨0, rfl, Nat.zero_le _, by simp [Hid]⟩
      case round =>
        obtain ⟨k, rfl, hk, HA⟩ := hrel
        by_cases hlt : k < m.size
        · cases hd : isD (m[k]'hlt) with
          | true =>
            have hd2 := isD_lt hd
            have hb1 : decide (((m[k]'hlt).toNat : Int) < 48) = false := decide_eq_false (by omega)
            have hb2 : decide ((57 : Int) < ((m[k]'hlt).toNat : Int)) = false := decide_eq_false (by omega)
            have HA2 := Lib.hid (all_take_next hlt HA.out hd)
            clear hd hd2
            go_wp2_with fail
            all_goals go_round
            case rel => exact ⟨k + 1, by go_num, by omega, HA2⟩
            case measure => simp [intOf] <;> omega
          | false =>
            have HV := Lib.hid (HBAD.out (.inr (not_all hlt hd)))
            rcases isD_no hd with hd2 | ⟨hd2, hd3⟩
            · have hb1 : decide (((m[k]'hlt).toNat : Int) < 48) = true := decide_eq_true (by omega)
              clear hd hd2
              go_wp2_with fail
              go_ret2
              exact ⟨by rw [HV.out]; rfl, B1.out⟩
            · have hb1 : decide (((m[k]'hlt).toNat : Int) < 48) = false := decide_eq_false (by omega)
              have hb2 : decide ((57 : Int) < ((m[k]'hlt).toNat : Int)) = true := decide_eq_true (by omega)
              clear hd hd2 hd3
              go_wp2_with fail
              go_ret2
              exact ⟨by rw [HV.out]; rfl, B1.out⟩
        · have hall : m.data.toList.all isD = true := by
            have := HA.out
            rw [List.take_of_length_le (by rw [len_list]; omega)] at this; exact this
          have hnb : ¬ (m.size = 0 ∨ m.data.toList.all isD = false) := by rw [hall]; intro q; rcases q with q | q; exact hm0 q; cases q
          have hT := fun wx => Tryz.strings_TrimLeft_one m 48 (by decide) wx
          rw [trim_val hall] at hT
          obtain ⟨v, hv⟩ : ∃ v, v = val m.data.toList := ⟨_, rfl⟩
          have HLONG2 := Lib.hid (HLONG.out hnb)
          have HOK2 := Lib.hid (HOK.out hnb)
          have hvs : v < 10 ^ m.size := by
            rcases val_size m with q | q
            · rw [hv]; exact q
            · rw [hall] at q; cases q
          have hsv : (str v).size ≤ 100000 := Nat.le_trans (str_big hvs (by omega)) (by omega)
          rw [← hv] at hT HLONG2 HOK2
          clear hall hnb hv hvs HLONG HOK HBAD HA
          by_cases hz : v = 0
          · rw [if_pos hz] at hT
            have HT := Lib.hid hT
            have HV := Lib.hid (show V = (⟨#[48]⟩, 0) by
              rw [HOK2.out (by have := str_big (a := v) (n := 1) (by rw [hz]; decide) (by decide); omega), hz]
              have e0 : zS (-((0 : Nat) : Int)) = ⟨#[48]⟩ := zS_zero
              have e1 : zS ((0 : Nat) : Int) = ⟨#[48]⟩ := zS_zero
              split
              · rw [e0]
              · rw [e1])
            clear hT hz HLONG2 HOK2 hsv
            go_wp2_with fail
            refine (HT.out _).mono ?_
            rintro e w2 ⟨rfl, hw2⟩
            obtain rfl := hw2.symm
            go_wp2_with fail
            go_ret2
            exact ⟨by rw [HV.out]; rfl, B1.out⟩
          · rw [if_neg hz] at hT
            have HD := Lib.hid (fun wx => digitsN_any (str v) wx)
            have hnz : ((str v).toList == []) = false := by rw [nil_tl]; exact decide_eq_false (by have := str_pos v; omega)
            have HSG := Lib.hid (fun wx => signed_any N v wx (by omega))
            obtain ⟨z, hzz⟩ : ∃ z, z = zS (if N = true then -(v : Int) else (v : Int)) := ⟨_, rfl⟩
            rw [← hzz] at HSG HOK2
            obtain ⟨p, hp⟩ : ∃ p, p = str v := ⟨_, rfl⟩
            rw [← hp] at hT HD hnz HSG HLONG2 HOK2 hsv
            have HT := Lib.hid hT
            by_cases h4 : 400 < p.size
            · have hd : decide ((400 : Int) < p.size) = true := decide_eq_true (by omega)
              have HV := Lib.hid (HLONG2.out h4)
              clear hT hz HLONG2 HOK2 hp h4 hsv hzz
              go_wp2_with fail
              refine (HT.out _).mono ?_
              rintro e w2 ⟨rfl, hw2⟩
              obtain rfl := hw2.symm
              go_wp2_with fail
              refine (HD.out _).mono ?_
              rintro e w2 ⟨rfl, rfl⟩
              go_wp2_with fail
              go_ret2
              exact ⟨by rw [HV.out]; rfl, B1.out⟩
            · have hd : decide ((400 : Int) < p.size) = false := decide_eq_false (by omega)
              have HV := Lib.hid (HOK2.out h4)
              clear hT hz HLONG2 HOK2 hp h4 hsv hzz
              go_wp2_with fail
              refine (HT.out _).mono ?_
              rintro e w2 ⟨rfl, hw2⟩
              obtain rfl := hw2.symm
              go_wp2_with fail
              refine (HD.out _).mono ?_
              rintro e w2 ⟨rfl, rfl⟩
              go_wp2_with fail
              refine (HSG.out _).mono ?_
              rintro e w2 ⟨rfl, rfl⟩
              go_wp2_with fail
              go_ret2
              exact ⟨by rw [HV.out]; rfl, B1.out⟩
end Go.Proofs.YtdgbplppabalgaaGreatDoor

namespace Go.Proofs.YtdgbplppabalgaaGreatDoor
open Go.RowKit

theorem ext1 {u : ByteArray} (h : 0 < u.size) : (u.extract 1 u.size).data.toList = u.data.toList.tail ∧ (u.extract 1 u.size).size = u.size - 1 := by
  refine ⟨?_, by rw [ByteArray.size_extract]; omega⟩
  rw [ByteArray.data_extract, Array.toList_extract]
  have hl := len_list u
  cases hq : u.data.toList with
  | nil => rw [hq] at hl; simp at hl; omega
  | cons c l =>
    rw [hq] at hl
    simp [List.extract]
    rw [List.take_of_length_le]; simp at hl; omega
/-- a list of digits that is about to lose a zero -/
structure Dg (v : Nat) (u : ByteArray) : Prop where
  all : u.data.toList.all isD = true
  val : val u.data.toList = v
theorem Dg.step {v : Nat} {u : ByteArray} (h : Dg v u) (h0 : 0 < u.size) (hb : (((u[0]'h0).toNat : Int) == 48) = true) : Dg v (u.extract 1 u.size) := by
  obtain ⟨e, -⟩ := ext1 h0
  have hl := len_list u
  have hg := at_list u 0 h0
  have h1 := h.all
  have h2 := h.val
  cases hq : u.data.toList with
  | nil => rw [hq] at hl; simp at hl; omega
  | cons c l =>
    rw [hq] at h1 h2 e
    have hc : c.toNat = 48 := by
      have : c = u[0] := by rw [← hg]; simp [hq]
      rw [this]; have := beq_iff_eq.1 hb; omega
    rw [val_cons, hc] at h2
    simp only [List.all_cons, Bool.and_eq_true] at h1
    exact ⟨by rw [e]; exact h1.2, by rw [e]; show Go.Proofs.YtdgbplppabalgaaGreatDoor.val l = v; omega⟩
theorem Dg.done {v : Nat} {u : ByteArray} (h : Dg v u) (h0 : 0 < u.size) (hx : ¬ (1 < u.size) ∨ (((u[0]'h0).toNat : Int) == 48) = false) : u = str v := by
  have hc : canonL u.data.toList = true := by
    unfold canonL
    rw [h.all, Bool.and_true, hd1 h0]
    have hl := len_list u
    have hg := at_list u 0 h0
    rcases hx with hx | hx
    · cases hq : (((u[0]'h0).toNat : Int) == 48) with
      | true =>
        rw [Bool.or_eq_true]; left
        rw [tl, beq_iff_eq]
        cases hu : u.data.toList with
        | nil => rw [hu] at hl; simp at hl; omega
        | cons c l =>
          rw [hu] at hl
          have hll : l = [] := by cases l with
            | nil => rfl
            | cons d l => simp at hl; omega
          have hcc : c = u[0] := by rw [← hg]; simp [hu]
          have : c = 48 := by rw [hcc]; have := beq_iff_eq.1 hq; exact UInt8.toNat_inj.1 (by show _ = 48; omega)
          rw [hll, this]
      | false => rw [Bool.or_eq_true]; right; rw [beq_eq_false_iff_ne] at hq; rw [bne_iff_ne]; exact hq
    · rw [Bool.or_eq_true]; right; rw [beq_eq_false_iff_ne] at hx; rw [bne_iff_ne]; exact hx
  rw [str_of hc, h.val]
end Go.Proofs.YtdgbplppabalgaaGreatDoor

namespace Go.Proofs.YtdgbplppabalgaaGreatDoor
open Go.RowKit

theorem val_take_le (s : ByteArray) (k : Nat) : val (s.data.toList.take k) ≤ val s.data.toList := take_le s.data.toList k
theorem tdiv_test {n d : Int} (hd0 : 0 ≤ d) (hd9 : d ≤ 9) : decide (n < (-9223372036854775808 + d).tdiv 10) = decide (n * 10 - d < -9223372036854775808) := by
  have h : (-9223372036854775808 + d).tdiv 10 = -((9223372036854775808 - d) / 10) := by
    rw [show -9223372036854775808 + d = -(9223372036854775808 - d) by omega, Int.neg_tdiv, Int.tdiv_eq_ediv_of_nonneg (by omega)]
  rw [h, Bool.eq_iff_iff, decide_eq_true_iff, decide_eq_true_iff]
  omega
theorem tdiv_rng {d : Int} (hd0 : 0 ≤ d) (hd9 : d ≤ 9) : -922337203685477581 ≤ (-9223372036854775808 + d).tdiv 10 ∧ (-9223372036854775808 + d).tdiv 10 ≤ 0 := by
  have h : (-9223372036854775808 + d).tdiv 10 = -((9223372036854775808 - d) / 10) := by
    rw [show -9223372036854775808 + d = -(9223372036854775808 - d) by omega, Int.neg_tdiv, Int.tdiv_eq_ediv_of_nonneg (by omega)]
  rw [h]; omega
/-- the loop of the reference's Small: over a text whose digits begin at place o -/
structure SmT (s : ByteArray) (o a : Nat) : Prop where
  sz : o < s.size
  lim : s.size ≤ 1000001
  dig : ∀ k (h : k < s.size), o ≤ k → isD (s[k]'h) = true
  vl : ∀ k (h : k < s.size), o ≤ k → val ((s.data.toList.drop o).take (k + 1 - o)) = 10 * val ((s.data.toList.drop o).take (k - o)) + ((s[k]'h).toNat - 48)
  all : val ((s.data.toList.drop o).take (s.size - o)) = a
  le : ∀ k, val ((s.data.toList.drop o).take k) ≤ a
theorem smT_of {s : ByteArray} {o a : Nat} (hd : s.data.toList.drop o = Lib.decDigits a) (hs : o < s.size) (hl : s.size ≤ 1000001) : SmT s o a := by
  have hle := len_list s
  have hg : ∀ k (h : k < s.size), o ≤ k → (Lib.decDigits a)[k - o]? = some (s[k]'h) := fun k h ho => by
    rw [← hd, List.getElem?_drop, show o + (k - o) = k by omega, List.getElem?_eq_getElem (by omega), at_list]
  refine ⟨hs, hl, fun k h ho => ?_, fun k h ho => ?_, ?_, fun k => ?_⟩
  · have hm := List.mem_of_getElem? (hg k h ho)
    exact List.all_eq_true.1 (all_dd a) _ hm
  · have h1 := hg k h ho
    rw [hd, show k + 1 - o = (k - o) + 1 by omega, List.take_add_one, h1, Option.toList_some, val_snoc]
  · rw [hd, List.take_of_length_le, val_dd]
    rw [← hd, List.length_drop]; omega
  · rw [hd]
    have := take_le (Lib.decDigits a) k
    rw [val_dd] at this; exact this
theorem smT_pos (z : Int) (h : ¬ z < 0) (hz : (str z.natAbs).size ≤ 1000000) : SmT (zS z) 0 z.natAbs := by
  rw [zS_pos h]
  exact smT_of (by rw [List.drop_zero, str_list]) (str_pos _) (by omega)
theorem smT_neg (z : Int) (h : z < 0) (hz : (str z.natAbs).size ≤ 1000000) : SmT (zS z) 1 z.natAbs := by
  rw [zS_neg h]
  have hn := negS z.natAbs
  refine smT_of ?_ (by have := hn.sz; have := str_pos z.natAbs; omega) (by have := hn.sz; omega)
  rw [ByteArray.data_append, Array.toList_append, ← str_list]; rfl
theorem inI_of {z : Int} : inI z = true ↔ -9223372036854775808 ≤ z ∧ z ≤ 9223372036854775807 := by
  unfold inI; rw [Bool.and_eq_true, decide_eq_true_iff, decide_eq_true_iff]
theorem inI_no {z : Int} (h : ¬ (-9223372036854775808 ≤ z ∧ z ≤ 9223372036854775807)) : inI z = false := by
  cases hi : inI z with
  | false => rfl
  | true => exact absurd (inI_of.1 hi) h
end Go.Proofs.YtdgbplppabalgaaGreatDoor

namespace Go.Proofs.YtdgbplppabalgaaGreatDoor
open Go.RowKit

theorem neg_cat (D : ByteArray) : negB (⟨#[45]⟩ ++ D) = true ∧ magB (⟨#[45]⟩ ++ D) = D := by
  have hd : (⟨#[45]⟩ ++ D : ByteArray).data.toList = 45 :: D.data.toList := by
    rw [ByteArray.data_append]; simp
  have h1 : negB (⟨#[45]⟩ ++ D) = true := by unfold negB; rw [hd]; rfl
  refine ⟨h1, ?_⟩
  unfold magB
  rw [if_pos h1]
  have h0 : 0 < (⟨#[45]⟩ ++ D : ByteArray).size := by rw [ByteArray.size_append]; show 0 < 1 + _; omega
  apply ByteArray.ext
  apply Array.toList_inj.1
  rw [(ext1 h0).1, hd]; rfl
theorem pos_mag {D : ByteArray} (h : D.data.toList.all isD = true) : negB D = false ∧ magB D = D := by
  have h1 : negB D = false := by
    rcases Nat.eq_zero_or_pos D.size with hz | hz
    · exact negB_nil hz
    · rw [negB_at hz, beq_eq_false_iff_ne]
      have hm : (D[0]'hz) ∈ D.data.toList := by rw [← at_list D 0 hz]; exact List.getElem_mem _
      have := isD_lt (List.all_eq_true.1 h _ hm)
      omega
  exact ⟨h1, by unfold magB; rw [h1]; rfl⟩
theorem parV_neg {D : ByteArray} (h : D.data.toList.all isD = true) (h0 : 0 < D.size) (hv : (str (val D.data.toList)).size ≤ 400) : parV (⟨#[45]⟩ ++ D) = (zS (-((val D.data.toList : Nat) : Int)), 0) := by
  obtain ⟨h1, h2⟩ := neg_cat D
  have hs : ¬ (⟨#[45]⟩ ++ D : ByteArray).size = 0 := by rw [ByteArray.size_append]; show ¬ 1 + _ = 0; omega
  rw [parV_ok hs (by rw [h2, h]; intro q; rcases q with q | q; omega; cases q) (by rw [h2]; omega), h1, h2, if_pos rfl]
theorem parV_pos {D : ByteArray} (h : D.data.toList.all isD = true) (h0 : 0 < D.size) (hv : (str (val D.data.toList)).size ≤ 400) : parV D = (zS ((val D.data.toList : Nat) : Int), 0) := by
  obtain ⟨h1, h2⟩ := pos_mag h
  rw [parV_ok (by omega) (by rw [h2, h]; intro q; rcases q with q | q; omega; cases q) (by rw [h2]; omega), h1, h2, if_neg (by decide)]
theorem parV_zS {z : Int} (hz : (str z.natAbs).size ≤ 400) : parV (zS z) = (zS z, 0) := by
  have hp := str_pos z.natAbs
  have hd : (str z.natAbs).data.toList.all isD = true := by rw [str_list]; exact all_dd _
  by_cases h : z < 0
  · rw [zS_neg h, parV_neg hd hp (by rw [val_str]; exact hz), val_str, zS_neg (z := -((z.natAbs : Nat) : Int)) (by omega), show (-((z.natAbs : Nat) : Int)).natAbs = z.natAbs by omega]
  · rw [zS_pos h, parV_pos hd hp (by rw [val_str]; exact hz), val_str, zS_of_nat]
theorem one_cvW (d : Nat) (hd : d < 10) (wx : World) :
    (convert 98 9 (.slice (some ⟨wx.heap.size, 0, none⟩) 1 1)).run Tryz.prog (wx.alloc (.cells #[.int .u8 (48 + (d : Int))] 5)) = .ok (.string ⟨#[UInt8.ofNat (48 + d)]⟩) (wx.alloc (.cells #[.int .u8 (48 + (d : Int))] 5)) :=
  run_convert_bytes_back (P := Tryz.prog) _ 98 9 5 ⟨wx.heap.size, 0, none⟩ 1 [UInt8.ofNat (48 + d)] Tryz.underlying98 Tryz.underlying5 Tryz.underlying9 (fun j hj => by
    have hj0 : j = 0 := by simp at hj; omega
    subst hj0
    have hc : (wx.alloc (.cells #[.int .u8 (48 + (d : Int))] 5)).cell? ⟨wx.heap.size, 0, none⟩ = some (.int .u8 (48 + (d : Int))) := by rw [World.cell?_alloc_new]; rfl
    refine hc.trans ?_
    show some (Value.int .u8 (48 + (d : Int))) = some (Value.int .u8 ((UInt8.ofNat (48 + d)).toNat : Int))
    rw [ofNat_dig hd]; push_cast; rfl)
theorem cat_one (L : List UInt8) (c : UInt8) : (⟨L.toArray⟩ ++ ⟨#[c]⟩ : ByteArray) = ⟨(L ++ [c]).toArray⟩ := by
  apply ByteArray.ext
  rw [ByteArray.data_append]; simp
/-- what the walk is told of a number that came in -/
def IsNum (w : World) (v : Value) : Prop := ∃ (b : Bool) (a : Option Addr) (len cap : Nat) (zs : List Int), v = .agg #[.bool b, .slice a len cap] ∧ IsRow .u8 w a len cap zs
end Go.Proofs.YtdgbplppabalgaaGreatDoor

namespace Go.Proofs.YtdgbplppabalgaaGreatDoor
open Go.RowKit

/-- a slice of integers' texts -/
def Txt (w : World) (a : Option Addr) (zs : List Int) : Prop := zs = [] ∨ ∃ g o, a = some ⟨g, o, none⟩ ∧ g < w.heap.size ∧ ∀ i (h : i < zs.length), w.cell? ⟨g, o + i, none⟩ = some (.string (zS zs[i]))
theorem Txt.below {w w' : World} {a : Option Addr} {zs : List Int} (h : Txt w a zs) (hb : Below w.heap.size w w') : Txt w' a zs := by
  rcases h with h | ⟨g, o, h1, h2, h3⟩
  · exact .inl h
  · exact .inr ⟨g, o, h1, Nat.lt_of_lt_of_le h2 hb.size, fun i hi => by rw [hb.cell (p := ⟨g, o + i, none⟩) h2]; exact h3 i hi⟩
theorem sum_next {zs : List Int} {k : Nat} (h : k < zs.length) : (zs.take (k + 1)).sum = (zs.take k).sum + zs[k] := by
  rw [List.take_add_one, List.getElem?_eq_getElem h, Option.toList_some, List.sum_append]; simp
set_option maxHeartbeats 400000 in
theorem magW2_any (z : Int) (w : World) (h1 : -9223372036854775807 ≤ z) (h2 : z ≤ 9223372036854775807) :
    Calls Tryz.prog 149 #[.int .i64 z] w fun e w' => e = .returned (.int .u64 (z.natAbs : Int)) ∧ w = w' := by
  have hm : max z (-z) = (z.natAbs : Int) := by omega
  have hw := IntWalk.i64_in (-z) ⟨by omega, by omega⟩
  have hu : IntKind.u64.wrap (z.natAbs : Int) = (z.natAbs : Int) := by rw [IntKind.wrap_u64]; omega
  obtain ⟨n, hn⟩ : ∃ n : Nat, n = z.natAbs := ⟨_, rfl⟩
  rw [← hn] at hm hu ⊢
  clear hn
  go_enter Tryz.func149, Tryz.ntmps149
  go_wp2_with fail
  go_ret
  exact ⟨rfl, rfl⟩
theorem big30 {z : Int} (h : z.natAbs < 1000000000000000000000000000000) : (str z.natAbs).size ≤ 30 := str_big (n := 30) (Nat.lt_of_lt_of_le h (by decide)) (by decide)
set_option maxHeartbeats 3200000 in
set_option maxRecDepth 100000 in
theorem sumW_any (a : Option Addr) (cap : Nat) (zs : List Int) (w : World) (hs : Std w) (h : Txt w a zs) (hl : zs.length ≤ 100) (hz : ∀ z ∈ zs, z.natAbs < 10000000000000000000000000) :
    Calls Tryz.prog 108 #[.slice a zs.length cap] w fun e w' => e = .returned (.string (zS zs.sum)) ∧ Below w.heap.size w w' := by
  have HS := Lib.hid hs
  have HC := Lib.hid (fun (wx : World) (hw : Below w.heap.size w wx) (i : Nat) (hi : i < zs.length) => (show ∃ (g o : Nat) (z : Int), a = some ⟨g, o, none⟩ ∧ z = zs[i] ∧ z.natAbs < 10000000000000000000000000 ∧ wx.cell? ⟨g, o + i, none⟩ = some (.string (zS z)) by
    rcases h.below hw with h | ⟨g, o, h1, h2, h3⟩
    · rw [h] at hi; simp at hi
    · exact ⟨g, o, zs[i], h1, rfl, hz _ (List.getElem_mem _), h3 i hi⟩))
  have HO := Lib.hid (fun (z : Int) wx hw h1 h2 => ofW_any z wx hw h1 h2)
  have HA := Lib.hid (fun (x y : Int) wx hw (h1 : x.natAbs < 1000000000000000000000000000000) (h2 : y.natAbs < 1000000000000000000000000000000) => addW_any x y wx hw (Nat.le_trans (big30 h1) (by decide)) (Nat.le_trans (big30 h2) (by decide)))
  have E0 := Lib.hid zS_zero
  clear hs h hz
  go_enter Tryz.func108, Tryz.ntmps108
  go_wp2_with fail
  go_loopw [3, 4, 6, 7, 8, 11] (fun tv pv _ _ _ iv wr => ∃ (k : Nat) (T p : Int), tv = .string (zS T) ∧ pv = .int .i64 p ∧ iv = .int .i64 (k : Int) ∧ k ≤ zs.length ∧ -1000000000000000000 < p ∧ p < 1000000000000000000 ∧ Hid (T + p = (zs.take k).sum ∧ T.natAbs ≤ 20000000000000000000000000 * k) ∧ Below w.heap.size w wr) (fun _ _ _ _ _ iv _ => zs.length - (intOf iv).toNat)
  case atStart => exact ⟨0, 0, 0, by rw [E0.out], rfl, rfl, Nat.zero_le _, by decide, by decide, ⟨by simp, by simp⟩, Below.refl _ _⟩
  case round =>
    obtain ⟨k, T, p, rfl, rfl, rfl, hk, hp1, hp2, HI, hbel⟩ := hrel
    have HB := Lib.hid hbel
    have hT := HI.out.2
    by_cases hlt : k < zs.length
    · obtain ⟨g, o, z, rfl, hzk, hzb, hcz⟩ := HC.out wr hbel k hlt
      have HF := Lib.hid (fun wx hw => few_any z wx hw (Nat.le_trans (big30 (by omega)) (by decide)))
      have HSUM := Lib.hid (show (zs.take (k + 1)).sum = T + p + z by rw [sum_next hlt, ← HI.out.1, hzk])
      clear hbel hzk HI
      cases hf : fewB z with
      | false =>
        rw [hf] at HF
        have HA1 := Lib.hid (fun wx hw => HA.out T z wx hw (by omega) (by omega))
        have HI2 := Lib.hid (show T + z + p = (zs.take (k + 1)).sum ∧ (T + z).natAbs ≤ 20000000000000000000000000 * (k + 1) from ⟨by rw [HSUM.out]; omega, by omega⟩)
        obtain ⟨s, hs⟩ : ∃ s, s = zS z := ⟨_, rfl⟩
        obtain ⟨t, ht⟩ : ∃ s, s = zS T := ⟨_, rfl⟩
        obtain ⟨u, hu⟩ : ∃ s, s = zS (T + z) := ⟨_, rfl⟩
        have HU := Lib.hid hu
        rw [← hs] at HF HA1 hcz
        rw [← ht] at HA1 ⊢
        rw [← hu] at HA1
        clear hs ht hu hf hT hzb
        go_wp2_with fail
        refine (HF.out _ (HS.out.below HB.out)).mono ?_
        rintro e w2 ⟨⟨v, rfl, -⟩, h2⟩
        have B2 := Lib.hid (HB.out.trans (h2.mono HB.out.size))
        clear h2
        go_wp2_with fail
        refine (HA1.out _ (HS.out.below B2.out)).mono ?_
        rintro e w3 ⟨rfl, h3⟩
        have B3 := Lib.hid (B2.out.trans (h3.mono B2.out.size))
        clear h3
        go_wp2_with fail
        all_goals go_roundw
        case rel => exact ⟨k + 1, T + z, p, by rw [HU.out], rfl, by go_num, by omega, hp1, hp2, HI2, B3.out⟩
        case measure => simp [intOf] <;> omega
      | true =>
        rw [hf] at HF
        have hfz : -1000000000000000000 < z ∧ z < 1000000000000000000 := by unfold fewB at hf; simp at hf; omega
        have hw := IntWalk.i64_in (p + z) ⟨by omega, by omega⟩
        have hM := fun wx => magW2_any (p + z) wx (by omega) (by omega)
        obtain ⟨m, hm⟩ : ∃ m, m = (p + z).natAbs := ⟨_, rfl⟩
        rw [← hm] at hM
        have HM := Lib.hid hM
        by_cases hbig : 1000000000000000000 ≤ m
        · have hbb : decide ((m : Int) ≥ 1000000000000000000) = true := decide_eq_true (by omega)
          have HO1 := Lib.hid (fun wx hw => HO.out (p + z) wx hw (by omega) (by omega))
          have HA1 := Lib.hid (fun wx hw => HA.out T (p + z) wx hw (by omega) (by omega))
          have HI2 := Lib.hid (show T + (p + z) + 0 = (zs.take (k + 1)).sum ∧ (T + (p + z)).natAbs ≤ 20000000000000000000000000 * (k + 1) from ⟨by rw [HSUM.out]; omega, by omega⟩)
          obtain ⟨s, hs⟩ : ∃ s, s = zS z := ⟨_, rfl⟩
          obtain ⟨t, ht⟩ : ∃ s, s = zS T := ⟨_, rfl⟩
          obtain ⟨q, hq⟩ : ∃ q, q = p + z := ⟨_, rfl⟩
          obtain ⟨u, hu⟩ : ∃ s, s = zS (T + (p + z)) := ⟨_, rfl⟩
          obtain ⟨r, hr⟩ : ∃ s, s = zS (p + z) := ⟨_, rfl⟩
          have HU := Lib.hid hu
          rw [← hs] at HF hcz
          rw [← ht] at HA1 ⊢
          rw [← hu, ← hr] at HA1
          rw [← hr] at HO1
          clear hs ht hu hr hf hT hzb hm hM hbig hq
          go_wp2_with fail
          refine (HF.out _ (HS.out.below HB.out)).mono ?_
          rintro e w2 ⟨⟨v, rfl, hv⟩, h2⟩
          obtain rfl := hv trivial
          have B2 := Lib.hid (HB.out.trans (h2.mono HB.out.size))
          clear h2 hv
          go_wp2_with fail
          refine (HM.out _).mono ?_
          rintro e w3 ⟨rfl, rfl⟩
          go_wp2_with fail
          refine (HO1.out _ (HS.out.below B2.out)).mono ?_
          rintro e w3 ⟨rfl, h3⟩
          have B3 := Lib.hid (B2.out.trans (h3.mono B2.out.size))
          clear h3
          go_wp2_with fail
          refine (HA1.out _ (HS.out.below B3.out)).mono ?_
          rintro e w4 ⟨rfl, h4⟩
          have B4 := Lib.hid (B3.out.trans (h4.mono B3.out.size))
          clear h4
          go_wp2_with fail
          all_goals go_roundw
          case rel => exact ⟨k + 1, _, 0, by rw [HU.out], rfl, by go_num, by omega, by decide, by decide, HI2, B4.out⟩
          case measure => simp [intOf] <;> omega
        · have hbb : decide ((m : Int) ≥ 1000000000000000000) = false := decide_eq_false (by omega)
          have HI2 := Lib.hid (show T + (p + z) = (zs.take (k + 1)).sum ∧ T.natAbs ≤ 20000000000000000000000000 * (k + 1) from ⟨by rw [HSUM.out]; omega, by omega⟩)
          have hq1 : -1000000000000000000 < p + z := by omega
          have hq2 : p + z < 1000000000000000000 := by omega
          obtain ⟨s, hs⟩ : ∃ s, s = zS z := ⟨_, rfl⟩
          rw [← hs] at HF hcz
          clear hs hf hT hzb hm hM hbig
          go_wp2_with fail
          refine (HF.out _ (HS.out.below HB.out)).mono ?_
          rintro e w2 ⟨⟨v, rfl, hv⟩, h2⟩
          obtain rfl := hv trivial
          have B2 := Lib.hid (HB.out.trans (h2.mono HB.out.size))
          clear h2 hv
          go_wp2_with fail
          refine (HM.out _).mono ?_
          rintro e w3 ⟨rfl, rfl⟩
          go_wp2_with fail
          all_goals go_roundw
          case rel => exact ⟨k + 1, T, _, rfl, rfl, by go_num, by omega, hq1, hq2, HI2, B2.out⟩
          case measure => simp [intOf] <;> omega
    · have hall := HI.out.1
      rw [List.take_of_length_le (by omega)] at hall
      have HO1 := Lib.hid (fun wx hw => HO.out p wx hw (by omega) (by omega))
      have HA1 := Lib.hid (fun wx hw => HA.out T p wx hw (by omega) (by omega))
      rw [hall] at HA1
      obtain ⟨t, ht⟩ : ∃ s, s = zS T := ⟨_, rfl⟩
      obtain ⟨q, hq⟩ : ∃ s, s = zS p := ⟨_, rfl⟩
      obtain ⟨u, hu⟩ : ∃ s, s = zS zs.sum := ⟨_, rfl⟩
      have HU := Lib.hid hu
      rw [← ht] at HA1 ⊢
      rw [← hq] at HO1 HA1
      rw [← hu] at HA1
      clear ht hq hu hT hall HI hbel
      go_wp2_with fail
      refine (HO1.out _ (HS.out.below HB.out)).mono ?_
      rintro e w3 ⟨rfl, h3⟩
      have B3 := Lib.hid (HB.out.trans (h3.mono HB.out.size))
      clear h3
      go_wp2_with fail
      refine (HA1.out _ (HS.out.below B3.out)).mono ?_
      rintro e w4 ⟨rfl, h4⟩
      have B4 := Lib.hid (B3.out.trans (h4.mono B3.out.size))
      clear h4
      go_wp2_with fail
      go_ret
      exact ⟨by rw [← HU.out]; rfl, B4.out⟩
end Go.Proofs.YtdgbplppabalgaaGreatDoor

namespace Go.Proofs.YtdgbplppabalgaaGreatDoor
open Go.RowKit

theorem lit_pos (s : ByteArray) (n : Nat) (h : s = str n) : s = zS (n : Int) := by rw [zS_of_nat]; exact h
theorem lit_neg (s : ByteArray) (n : Nat) (h0 : n ≠ 0) (h : s = str n) : ⟨#[45]⟩ ++ s = zS (-(n : Int)) := by rw [zS_of_neg n h0, h]
theorem zl_m7 : (⟨#[45, 55]⟩ : ByteArray) = zS (-7) := lit_neg ⟨#[55]⟩ 7 (by decide) (str_eq 7 (by decide) (by decide))
theorem zl_2 : (⟨#[50]⟩ : ByteArray) = zS 2 := lit_pos ⟨#[50]⟩ 2 (str_eq 2 (by decide) (by decide))
theorem zl_m4 : (⟨#[45, 52]⟩ : ByteArray) = zS (-4) := lit_neg ⟨#[52]⟩ 4 (by decide) (str_eq 4 (by decide) (by decide))
theorem zl_1 : (⟨#[49]⟩ : ByteArray) = zS 1 := lit_pos ⟨#[49]⟩ 1 (str_eq 1 (by decide) (by decide))
theorem zl_m12 : (⟨#[45, 49, 50]⟩ : ByteArray) = zS (-12) := lit_neg ⟨#[49, 50]⟩ 12 (by decide) (str_eq 12 (by decide) (by decide))
theorem zl_18 : (⟨#[49, 56]⟩ : ByteArray) = zS 18 := lit_pos ⟨#[49, 56]⟩ 18 (str_eq 18 (by decide) (by decide))
theorem zl_m3 : (⟨#[45, 51]⟩ : ByteArray) = zS (-3) := lit_neg ⟨#[51]⟩ 3 (by decide) (str_eq 3 (by decide) (by decide))
theorem zl_m2 : (⟨#[45, 50]⟩ : ByteArray) = zS (-2) := lit_neg ⟨#[50]⟩ 2 (by decide) (str_eq 2 (by decide) (by decide))
theorem sz_lit {n k : Nat} (h : n < 1000000000) (hk : 9 ≤ k) : (str n).size ≤ k := Nat.le_trans (str_big (n := 9) (Nat.lt_of_lt_of_le h (by decide)) (by decide)) hk
theorem kn_div (w : World) (hs : Std w) :
    Calls Tryz.prog 107 #[.string ⟨#[45, 55]⟩, .string ⟨#[50]⟩] w fun e w' => e = .returned (.tuple #[.string ⟨#[45, 52]⟩, .string ⟨#[49]⟩, .int .i64 0]) ∧ Below w.heap.size w w' := by
  rw [zl_m7, zl_2, zl_m4, zl_1]
  exact divW_any (-7) 2 w hs (sz_lit (by decide) (by decide)) (sz_lit (by decide) (by decide)) (by decide)
theorem bz_12 : IsBz (-12) 18 1 1 := ⟨(fun h => absurd h (by decide)), (fun _ => ⟨by decide, by decide, ⟨-1, by decide⟩⟩), by decide⟩

theorem kn_par (w : World) :
    Calls Tryz.prog 81 #[.string ⟨#[45, 48, 48, 55]⟩] w fun e w' => e = .returned (.tuple #[.string ⟨#[45, 55]⟩, .int .i64 0]) ∧ Below w.heap.size w w' := by
  have h := parW_any (⟨#[45]⟩ ++ ⟨#[48, 48, 55]⟩) w (by decide)
  rw [parV_neg (D := ⟨#[48, 48, 55]⟩) (by decide) (by decide) (sz_lit (by decide) (by decide))] at h
  have e : zS (-((val (⟨#[48, 48, 55]⟩ : ByteArray).data.toList : Nat) : Int)) = ⟨#[45, 55]⟩ := zl_m7.symm
  rw [e] at h
  exact h
theorem kn_bad (w : World) :
    Calls Tryz.prog 81 #[.string ⟨#[43, 49]⟩] w fun e w' => e = .returned (.tuple #[.string ⟨#[]⟩, .int .i64 15]) ∧ Below w.heap.size w w' := by
  have h := parW_any ⟨#[43, 49]⟩ w (by decide)
  rw [parV_bad (s := ⟨#[43, 49]⟩) (by decide) (.inr (by decide))] at h
  exact h

theorem kn_sum (w : World) (hs : Std w) :
    Calls Tryz.prog 108 #[.slice (some ⟨w.heap.size, 0, none⟩) 2 2] (w.alloc (.cells #[.string ⟨#[49]⟩, .string ⟨#[45, 51]⟩] 22)) fun e w' => e = .returned (.string ⟨#[45, 50]⟩) ∧ Below w.heap.size w w' := by
  have ha := (Below.refl w.heap.size w).alloc (Nat.le_refl _) (.cells #[.string ⟨#[49]⟩, .string ⟨#[45, 51]⟩] 22)
  have h := sumW_any (some ⟨w.heap.size, 0, none⟩) 2 [1, -3] (w.alloc (.cells #[.string ⟨#[49]⟩, .string ⟨#[45, 51]⟩] 22)) (hs.alloc _) (.inr ⟨w.heap.size, 0, rfl, by
      show _ < (w.heap.push _).size; rw [Array.size_push]; omega, fun i hi => by
      have hi2 : i < 2 := hi
      rw [World.cell?_alloc_new]
      rcases (by omega : i = 0 ∨ i = 1) with rfl | rfl
      · show some (Value.string ⟨#[49]⟩) = some (.string (zS 1)); rw [zl_1]
      · show some (Value.string ⟨#[45, 51]⟩) = some (.string (zS (-3))); rw [zl_m3]⟩) (by decide) (by decide)
  rw [show [1, (-3 : Int)].sum = -2 by decide, ← zl_m2] at h
  refine h.mono ?_
  rintro e w' ⟨he, hb⟩
  exact ⟨he, ha.trans (hb.mono ha.size)⟩
end Go.Proofs.YtdgbplppabalgaaGreatDoor

namespace Go.Proofs.YtdgbplppabalgaaGreatDoor
open Go.RowKit

end Go.Proofs.YtdgbplppabalgaaGreatDoor

namespace Go.Proofs.YtdgbplppabalgaaGreatDoor
open Go.RowKit

def sdI (z : Int) : Int := if z < 0 then -1 else 1
theorem cmp_sd {x y : Int} (h : sgnI x = sgnI y) : cmpN x.natAbs y.natAbs * sdI x = cmpZ x y := by
  unfold sdI
  rcases sgnI_ways x with ⟨h1, e1⟩ | ⟨h1, e1⟩ | ⟨h1, e1⟩ <;> rcases sgnI_ways y with ⟨h2, e2⟩ | ⟨h2, e2⟩ | ⟨h2, e2⟩ <;> rw [e1, e2] at h <;> first | (exfalso; omega) | skip
  all_goals
    first | rw [if_pos h1] | rw [if_neg (by omega)]
    rcases cmpN_ways x.natAbs y.natAbs with ⟨h4, e4⟩ | ⟨h4, e4⟩ | ⟨h4, e4⟩ <;>
      rcases cmpZ_ways x y with ⟨h3, e3⟩ | ⟨h3, e3⟩ | ⟨h3, e3⟩ <;> rw [e3, e4] <;> first | (exfalso; omega) | rfl | decide
theorem sgn_lt {x y : Int} (h : sgnI x ≠ sgnI y) : (sgnI x < sgnI y ∧ cmpZ x y = -1) ∨ (¬ sgnI x < sgnI y ∧ cmpZ x y = 1) := by
  rcases sgnI_ways x with ⟨h1, e1⟩ | ⟨h1, e1⟩ | ⟨h1, e1⟩ <;> rcases sgnI_ways y with ⟨h2, e2⟩ | ⟨h2, e2⟩ | ⟨h2, e2⟩ <;> rw [e1, e2] at h ⊢ <;>
    rcases cmpZ_ways x y with ⟨h3, e3⟩ | ⟨h3, e3⟩ | ⟨h3, e3⟩ <;> rw [e3] <;> first | (exfalso; omega) | (left; exact ⟨by decide, rfl⟩) | (right; exact ⟨by decide, rfl⟩)
end Go.Proofs.YtdgbplppabalgaaGreatDoor

namespace Go.Proofs.YtdgbplppabalgaaGreatDoor
open Go.RowKit


/-- the box of a number -/
structure Bx (W : World) (g : Nat) (b : Bool) (a : Option Addr) (l c : Nat) : Prop where
  lt : g < W.heap.size
  neg : W.cell? ⟨g, 0, none⟩ = some (.bool b)
  dig : W.cell? ⟨g, 1, none⟩ = some (.slice a l c)
theorem Bx.below {W W' : World} {g : Nat} {b : Bool} {a : Option Addr} {l c : Nat} (h : Bx W g b a l c) (hb : Below W.heap.size W W') : Bx W' g b a l c :=
  ⟨Nat.lt_of_lt_of_le h.lt hb.size, by rw [hb.cell (p := ⟨g, 0, none⟩) h.lt]; exact h.neg, by rw [hb.cell (p := ⟨g, 1, none⟩) h.lt]; exact h.dig⟩

theorem alloc_size (w : World) (o : Obj) : (w.alloc o).heap.size = w.heap.size + 1 := by show (w.heap.push o).size = _; exact Array.size_push _
theorem Bx.alloc {W : World} {g : Nat} {b : Bool} {a : Option Addr} {l c : Nat} (h : Bx W g b a l c) (o : Obj) : Bx (W.alloc o) g b a l c := h.below ((Below.refl _ _).alloc (Nat.le_refl _) o)
/-- two boxes -/
structure Bx2 (w W : World) (b1 : Bool) (a1 : Option Addr) (l1 c1 : Nat) (b2 : Bool) (a2 : Option Addr) (l2 c2 : Nat) : Prop where
  below : Below w.heap.size w W
  one : Bx W w.heap.size b1 a1 l1 c1
  two : Bx W (w.heap.size + 1) b2 a2 l2 c2

theorem Bx2.to {w W W' : World} {b1 : Bool} {a1 : Option Addr} {l1 c1 : Nat} {b2 : Bool} {a2 : Option Addr} {l2 c2 : Nat} (h : Bx2 w W b1 a1 l1 c1 b2 a2 l2 c2) (hb : Below W.heap.size W W') : Bx2 w W' b1 a1 l1 c1 b2 a2 l2 c2 :=
  ⟨h.below.trans (hb.mono h.below.size), h.one.below hb, h.two.below hb⟩

theorem pow_size {z : Int} {N : Nat} (h : z.natAbs < 10 ^ N) (h0 : 0 < N) : (str z.natAbs).size ≤ N := str_big h h0
end Go.Proofs.YtdgbplppabalgaaGreatDoor

namespace Go.Proofs.YtdgbplppabalgaaGreatDoor
open Go.RowKit

def cI (l : List Nat) : List Value := l.map fun n : Nat => Value.int .i64 (n : Int)
theorem cI_len (l : List Nat) : (cI l).length = l.length := by simp [cI]
theorem cI_at (l : List Nat) (i : Nat) (h : i < l.length) : (cI l)[i]? = some (.int .i64 ((l[i]'h : Nat) : Int)) := by simp [cI, h]
theorem cI_append (l m : List Nat) : cI (l ++ m) = cI l ++ cI m := by simp [cI]
theorem cI_set (l : List Nat) (k v : Nat) : (cI l).set k (.int .i64 (v : Int)) = cI (l.set k v) := by simp [cI, List.map_set]
theorem infoZ : (Tryz.prog.info? 3).map (fun i => (i.zero, i.size, i.bytes)) = some (some (.int .i64 0), 1, 8) := by kernel_rfl
theorem lies1 (w : World) (n : Int) (j : Nat) (u : Value) (h : ([Value.int .i64 n] : List Value)[j]? = some u) : (w.alloc (.cells #[.int .i64 n] 3)).cell? ((⟨w.heap.size, 0, none⟩ : Addr).add j) = some u := by
  match j, h with
  | 0, h => simp at h; subst h; rw [Lib.add_plain, World.cell?_alloc_new]; rfl
theorem ones1 (n : Int) : ∀ u ∈ [Value.int .i64 n], u.oneCell' = true := fun u hu => by simp at hu; subst hu; rfl
/-- a slice of ints of the call's own -/
def Ow (w : World) (B : Nat) (vo : Option Addr) (vc : Nat) (L : List Nat) : Prop := w.ownsRow B 3 1 (.slice vo L.length vc) L.length (cI L)
theorem Ow.nil (w : World) (B : Nat) : Ow w B none 0 [] := World.ownsRow_nil _ _ _ _
theorem Ow.snoc {w : World} {B n : Nat} {v : Value} {L : List Nat} {x : Nat} {xs : List Value} (h : w.ownsRow B 3 1 v n xs) (hn : n = L.length + 1) (hx : xs = cI L ++ [.int .i64 (x : Int)]) : ∃ g cap, v = .slice (some ⟨g, 0, none⟩) (L ++ [x]).length cap ∧ Ow w B (some ⟨g, 0, none⟩) cap (L ++ [x]) := by
  obtain ⟨g, cap, rfl⟩ := own_some h (by omega)
  have e : (L ++ [x]).length = n := by simp; omega
  refine ⟨g, cap, by rw [e], ?_⟩
  unfold Ow
  rw [e, cI_append]
  have e2 : cI [x] = [.int .i64 (x : Int)] := rfl
  rw [e2, ← hx]; exact h
/-- pieces that are read -/
structure Pd (w : World) (a : Option Addr) (cap : Nat) (l : List Nat) : Prop where
  lc : l.length ≤ cap
  lim : cap ≤ 9223372036854775807
  nine : lt9 l
  cell : (a = none ∧ l = [] ∧ cap = 0) ∨ ∃ g, a = some ⟨g, 0, none⟩ ∧ g < w.heap.size ∧ ∀ i (h : i < l.length), w.cell? ⟨g, i, none⟩ = some (.int .i64 ((l[i]'h : Nat) : Int))
theorem Pd.below {w w' : World} {a : Option Addr} {cap : Nat} {l : List Nat} (h : Pd w a cap l) (hb : Below w.heap.size w w') : Pd w' a cap l := by
  refine ⟨h.lc, h.lim, h.nine, ?_⟩
  rcases h.cell with h5 | ⟨g, e, hlt, hc⟩
  · exact .inl h5
  · exact .inr ⟨g, e, Nat.lt_of_lt_of_le hlt hb.size, fun i hi => by rw [hb.cell (p := ⟨g, i, none⟩) hlt]; exact hc i hi⟩
theorem Pd.take {w : World} {a : Option Addr} {cap : Nat} {l : List Nat} (h : Pd w a cap l) (k : Nat) (hk : k ≤ l.length) : Pd w a cap (l.take k) := by
  have hl : (l.take k).length = k := by rw [List.length_take]; omega
  refine ⟨by rw [hl]; have := h.lc; omega, h.lim, lt9_take h.nine k, ?_⟩
  rcases h.cell with ⟨h1, h2, h3⟩ | ⟨g, e, hlt, hc⟩
  · exact .inl ⟨h1, by rw [h2, List.take_nil], h3⟩
  · exact .inr ⟨g, e, hlt, fun i hi => by rw [List.getElem_take]; exact hc i (by omega)⟩
theorem Pd.trim {w : World} {a : Option Addr} {cap : Nat} {l : List Nat} (h : Pd w a cap l) : Pd w a cap (trimP l) := by
  have h1 := (trimP_props l).2.2.2.2
  have h2 := (trimP_props l).2.2.2.1
  rw [h1]; exact h.take _ h2
theorem Ow.pd {w : World} {B : Nat} {vo : Option Addr} {vc : Nat} {L : List Nat} (h : Ow w B vo vc L) (h9 : lt9 L) : Pd w vo vc L := by
  have hlt := fun q hq => (World.ownsRow.lt h q hq).2
  have hh0 := h
  obtain ⟨h1, h2⟩ := h
  rcases h2 with ⟨h0, _⟩ | ⟨g, cap', cur, e, hg, hh, h3, h4, h5, h6⟩
  · injection h0 with e1 e2 e3
    have hl : L = [] := List.length_eq_zero_iff.1 e2
    exact ⟨by rw [e2, e3]; exact Nat.le_refl _, by rw [e3]; decide, h9, .inl ⟨e1, hl, e3⟩⟩
  · cases e
    refine ⟨h3, by unfold maxLen at h4; exact h4, h9, .inr ⟨g, rfl, hlt g rfl, fun i hi => ?_⟩⟩
    rw [World.ownsRow.cellAt hh0 i (by omega), cI_at L i hi]
end Go.Proofs.YtdgbplppabalgaaGreatDoor

namespace Go.Proofs.YtdgbplppabalgaaGreatDoor
open Go.RowKit

/-- an integer of the reference -/
structure Wh (w : World) (b : Bool) (o : Option Addr) (c : Nat) (L : List Nat) (z : Int) : Prop where
  pd : Pd w o c L
  pcs : Pcs L z.natAbs
  neg : b = decide (z < 0)
abbrev whV (b : Bool) (o : Option Addr) (c : Nat) (L : List Nat) : Value := .agg #[.bool b, .slice o L.length c]
theorem Wh.below {w w' : World} {b : Bool} {o : Option Addr} {c : Nat} {L : List Nat} {z : Int} (h : Wh w b o c L z) (hb : Below w.heap.size w w') : Wh w' b o c L z := ⟨h.pd.below hb, h.pcs, h.neg⟩
theorem Wh.len_zero {w : World} {b : Bool} {o : Option Addr} {c : Nat} {L : List Nat} {z : Int} (h : Wh w b o c L z) : L.length = 0 ↔ z = 0 := by
  constructor
  · intro hl
    have hv := h.pcs.val
    rw [List.length_eq_zero_iff.1 hl] at hv
    have : (0 : Nat) = z.natAbs := hv
    omega
  · intro hz
    have hv := h.pcs.val
    rw [hz] at hv
    have h0 : L.length ≤ ([] : List Nat).length := Pcs.len_mono Pcs.nil h.pcs (by rw [hz]; exact Nat.le_refl _)
    simpa using h0
/-- what trim makes of a sign and digits -/
theorem Wh.trimmed {w : World} {o : Option Addr} {c : Nat} {L : List Nat} (b : Bool) (hp : Pd w o c L) (z : Int) (hz : pv L = z.natAbs) (hb : z ≠ 0 → b = decide (z < 0)) : Wh w (b && decide (0 < (trimP L).length)) o c (trimP L) z := by
  have h1 : Pcs (trimP L) z.natAbs := by rw [← hz]; exact Pcs.of_trim hp.nine
  refine ⟨hp.trim, h1, ?_⟩
  by_cases h0 : z = 0
  · subst h0
    have h2 : (trimP L).length ≤ ([] : List Nat).length := Pcs.len_mono Pcs.nil h1 (Nat.le_refl _)
    have h3 : ¬ 0 < (trimP L).length := by simpa using h2
    rw [decide_eq_false h3, Bool.and_false]; rfl
  · have h3 : 0 < (trimP L).length := by
      apply Nat.pos_of_ne_zero; intro h
      have hv := h1.val
      rw [List.length_eq_zero_iff.1 h] at hv
      have : (0 : Nat) = z.natAbs := hv
      omega
    rw [decide_eq_true h3, Bool.and_true]; exact hb h0
/-- a slice's block is the call's own -/
def NewO (B : Nat) (o : Option Addr) : Prop := ∀ g, o = some ⟨g, 0, none⟩ → B ≤ g
theorem Ow.newO {w : World} {B : Nat} {vo : Option Addr} {vc : Nat} {L : List Nat} (h : Ow w B vo vc L) : NewO B vo := fun g e => (World.ownsRow.lt h g (by rw [e]; rfl)).1
theorem NewO.mono {B B' : Nat} {o : Option Addr} (h : NewO B o) (hB : B' ≤ B) : NewO B' o := fun g e => Nat.le_trans hB (h g e)
theorem NewO.no (B : Nat) : NewO B none := fun g e => by cases e
theorem NewO.ne {B : Nat} {o : Option Addr} (h : NewO B o) {G : Nat} (hG : G < B) : ∀ g, o = some ⟨g, 0, none⟩ → g ≠ G := fun g e => by have := h g e; omega
theorem Pd.lt {w : World} {o : Option Addr} {c : Nat} {L : List Nat} (h : Pd w o c L) : ∀ g, o = some ⟨g, 0, none⟩ → g < w.heap.size := fun g e => by
  rcases h.cell with ⟨h1, _, _⟩ | ⟨g', h1, h2, _⟩
  · rw [h1] at e; cases e
  · rw [h1] at e; injection e with e; injection e with e; omega
theorem Pd.storedY {w : World} {o : Option Addr} {c : Nat} {l : List Nat} (h : Pd w o c l) (g k : Nat) (v : Value) (hne : ∀ g', o = some ⟨g', 0, none⟩ → g' ≠ g) : Pd (w.setCell ⟨g, k, none⟩ v) o c l := by
  refine ⟨h.lc, h.lim, h.nine, ?_⟩
  rcases h.cell with h6 | ⟨g6, e6, hl6, hc6⟩
  · exact .inl h6
  · exact .inr ⟨g6, e6, Nat.lt_of_lt_of_le hl6 ((Below.refl 0 w).setCell (p := ⟨g, k, none⟩) (Nat.zero_le _) v).size, fun i hi6 => by
      rw [World.cell?_of_block (w := w) (a := ⟨g6, i, none⟩) (Below.heap_setCell w ⟨g, k, none⟩ v g6 (hne g6 e6))]; exact hc6 i hi6⟩
theorem Wh.stored {w : World} {b : Bool} {o : Option Addr} {c : Nat} {L : List Nat} {z : Int} (h : Wh w b o c L z) (g k : Nat) (v : Value) (hne : ∀ g', o = some ⟨g', 0, none⟩ → g' ≠ g) : Wh (w.setCell ⟨g, k, none⟩ v) b o c L z := ⟨h.pd.storedY g k v hne, h.pcs, h.neg⟩
/-- an integer of the reference whose slice lies at or above a block -/
structure Wf (B : Nat) (w : World) (b : Bool) (o : Option Addr) (c : Nat) (L : List Nat) (z : Int) : Prop where
  wh : Wh w b o c L z
  new : NewO B o
theorem Wf.below {B : Nat} {w w' : World} {b : Bool} {o : Option Addr} {c : Nat} {L : List Nat} {z : Int} (h : Wf B w b o c L z) (hb : Below w.heap.size w w') : Wf B w' b o c L z := ⟨h.wh.below hb, h.new⟩
theorem Wf.mono {B B' : Nat} {w : World} {b : Bool} {o : Option Addr} {c : Nat} {L : List Nat} {z : Int} (h : Wf B w b o c L z) (hB : B' ≤ B) : Wf B' w b o c L z := ⟨h.wh, h.new.mono hB⟩
theorem Wf.stored {B : Nat} {w : World} {b : Bool} {o : Option Addr} {c : Nat} {L : List Nat} {z : Int} (h : Wf B w b o c L z) {g : Nat} (k : Nat) (v : Value) (hg : g < B) : Wf B (w.setCell ⟨g, k, none⟩ v) b o c L z := ⟨h.wh.stored g k v (h.new.ne hg), h.new⟩
end Go.Proofs.YtdgbplppabalgaaGreatDoor
