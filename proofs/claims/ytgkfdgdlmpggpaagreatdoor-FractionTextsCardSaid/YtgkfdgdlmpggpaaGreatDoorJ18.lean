/-
  Texts of one seat, joined: ZPar ZParR ZSmR ZMake.
-/
import Derived.Test.YtgkfdgdlmpggpaaGreatDoorJ17
import Derived.Test.YtgkfdgdlmpggpaaGreatDoorShelf2
import Derived.Test.YtgkfdgdlmpggpaaGreatDoorJ4
namespace Go.Proofs.YtgkfdgdlmpggpaaGreatDoor
open Go.RowKit

def parV (s : ByteArray) : ByteArray × Int :=
  if s.size = 0 then (⟨#[]⟩, 13) else if (magB s).size = 0 ∨ (magB s).data.toList.all isD = false then (⟨#[]⟩, 15) else
  if 400 < (str (val (magB s).data.toList)).size then (⟨#[]⟩, 4) else (zS (if negB s = true then -((val (magB s).data.toList : Nat) : Int) else ((val (magB s).data.toList : Nat) : Int)), 0)
theorem parV_nil {s : ByteArray} (h : s.size = 0) : parV s = (⟨#[]⟩, 13) := if_pos h
theorem parV_bad {s : ByteArray} (h : ¬ s.size = 0) (h2 : (magB s).size = 0 ∨ (magB s).data.toList.all isD = false) : parV s = (⟨#[]⟩, 15) := by
  unfold parV; rw [if_neg h, if_pos h2]
theorem parV_long {s : ByteArray} (h : ¬ s.size = 0) (h2 : ¬ ((magB s).size = 0 ∨ (magB s).data.toList.all isD = false)) (h3 : 400 < (str (val (magB s).data.toList)).size) : parV s = (⟨#[]⟩, 4) := by
  unfold parV; rw [if_neg h, if_neg h2, if_pos h3]
theorem parV_ok {s : ByteArray} (h : ¬ s.size = 0) (h2 : ¬ ((magB s).size = 0 ∨ (magB s).data.toList.all isD = false)) (h3 : ¬ 400 < (str (val (magB s).data.toList)).size) : parV s = (zS (if negB s = true then -((val (magB s).data.toList : Nat) : Int) else ((val (magB s).data.toList : Nat) : Int)), 0) := by
  unfold parV; rw [if_neg h, if_neg h2, if_neg h3]
theorem nil_tl {s : ByteArray} : (s.toList == []) = decide (s.size = 0) := by
  rw [tl]
  have hl := len_list s
  by_cases h : s.size = 0
  · rw [decide_eq_true h, beq_iff_eq]; rw [h] at hl; exact List.length_eq_zero_iff.1 hl
  · rw [decide_eq_false h, beq_eq_false_iff_ne]; intro q; rw [q] at hl; simp at hl; omega
theorem all_take_next {s : ByteArray} {k : Nat} (h : k < s.size) (ha : (s.data.toList.take k).all isD = true) (hd : isD (s[k]'h) = true) : (s.data.toList.take (k + 1)).all isD = true := by
  rw [List.take_add_one, List.getElem?_eq_getElem (by rw [len_list]; exact h), at_list s k h, Option.toList_some, List.all_append, ha]
  simp [hd]
theorem not_all {s : ByteArray} {k : Nat} (h : k < s.size) (hd : isD (s[k]'h) = false) : s.data.toList.all isD = false := by
  cases ha : s.data.toList.all isD with
  | false => rfl
  | true =>
    have hm : (s[k]'h) ∈ s.data.toList := by rw [← at_list s k h]; exact List.getElem_mem _
    have := List.all_eq_true.1 ha _ hm
    rw [hd] at this; cases this
theorem isD_no {c : UInt8} (h : isD c = false) : c.toNat < 48 ∨ (48 ≤ c.toNat ∧ 57 < c.toNat) := by
  simp [isD] at h; omega
theorem drop0_zero {l : List UInt8} (h : l.all isD = true) (hv : val l = 0) : l.dropWhile (· == 48) = [] := by
  cases e : l.dropWhile (· == 48) with
  | nil => rfl
  | cons c m =>
    have h1 := all_drop0 l h
    have h2 := val_drop0 l
    have h3 := head_drop0 l
    rw [e] at h1 h2 h3
    rw [hv, val_cons] at h2
    simp only [List.all_cons, Bool.and_eq_true] at h1
    have h4 := isD_lt h1.1
    have h5 : c.toNat - 48 ≠ 0 := by
      intro q
      have : c = 48 := UInt8.toNat_inj.1 (by show _ = 48; omega)
      rw [this] at h3; simp at h3
    have h6 : 0 < 10 ^ m.length := Nat.pow_pos (by decide)
    have h7 : 1 * 10 ^ m.length ≤ (c.toNat - 48) * 10 ^ m.length := Nat.mul_le_mul_right _ (by omega)
    omega
theorem trim_val {s : ByteArray} (h : s.data.toList.all isD = true) : (⟨(Lib.trimLeftB s.data.toList 48).toArray⟩ : ByteArray) = if val s.data.toList = 0 then ⟨#[]⟩ else str (val s.data.toList) := by
  unfold Lib.trimLeftB
  by_cases hv : val s.data.toList = 0
  · rw [if_pos hv, drop0_zero h hv]
  · rw [if_neg hv, canon_drop0 h (by omega)]; rfl
theorem val_size (s : ByteArray) : val s.data.toList < 10 ^ s.size ∨ s.data.toList.all isD = false := by
  cases h : s.data.toList.all isD with
  | false => exact .inr rfl
  | true => left; have := val_lt _ h; rw [len_list] at this; exact this
set_option maxHeartbeats 3200000 in
set_option maxRecDepth 100000 in
theorem parW_any (s : ByteArray) (w : World) (hs : s.size ≤ 100000) :
    Calls Tryz.prog 81 #[.string s] w fun e w' => e = .returned (.tuple #[.string (parV s).1, .int .i64 (parV s).2]) ∧ Below w.heap.size w w' := by
  by_cases h0 : s.size = 0
  · have HV := Lib.hid (parV_nil h0)
    have hn : (s.toList == []) = true := by rw [nil_tl]; exact decide_eq_true h0
    obtain ⟨V, hV⟩ : ∃ V, V = parV s := ⟨_, rfl⟩
    rw [← hV] at HV ⊢
    clear hV h0 hs
    go_enter Tryz.func81, Tryz.ntmps81
    go_wp2_with fail
    go_ret2
    exact ⟨by rw [HV.out]; rfl, Below.refl _ _⟩
  · have hn : (s.toList == []) = false := by rw [nil_tl]; exact decide_eq_false h0
    have HX := Lib.hid (fun wx => splitG_any s wx (by omega))
    have hml := magB_len (s := s)
    have HBAD := Lib.hid (fun h => parV_bad (s := s) h0 h)
    have HLONG := Lib.hid (fun h => parV_long (s := s) h0 h)
    have HOK := Lib.hid (fun h => parV_ok (s := s) h0 h)
    obtain ⟨V, hV⟩ : ∃ V, V = parV s := ⟨_, rfl⟩
    obtain ⟨m, hm⟩ : ∃ m, m = magB s := ⟨_, rfl⟩
    obtain ⟨N, hN⟩ : ∃ N, N = negB s := ⟨_, rfl⟩
    rw [← hV, ← hm] at HBAD HLONG HOK
    rw [← hN] at HOK
    rw [← hV]
    rw [← hm] at hml
    rw [← hm, ← hN] at HX
    clear hV hm hN h0
    by_cases hm0 : m.size = 0
    · have hmn : (m.toList == []) = true := by rw [nil_tl]; exact decide_eq_true hm0
      have HV := Lib.hid (HBAD.out (.inl hm0))
      clear hm0
      go_enter Tryz.func81, Tryz.ntmps81
      go_wp2_with fail
      refine (HX.out _).mono ?_
      rintro e w1 ⟨rfl, h1⟩
      have B1 := Lib.hid h1
      clear h1
      go_wp2_with fail
      go_ret2
      exact ⟨by rw [HV.out]; rfl, B1.out⟩
    · have hmn : (m.toList == []) = false := by rw [nil_tl]; exact decide_eq_false hm0
      go_enter Tryz.func81, Tryz.ntmps81
      go_wp2_with fail
      refine (HX.out _).mono ?_
      rintro e w1 ⟨rfl, h1⟩
      have B1 := Lib.hid h1
      clear h1
      go_wp2_with fail
      go_loop [6, 19] (fun _ iv => ∃ k : Nat, iv = .int .i64 k ∧ k ≤ m.size ∧ Hid ((m.data.toList.take k).all isD = true)) (fun _ iv => m.size - (intOf iv).toNat)
      case atStart => exact ⟨0, rfl, Nat.zero_le _, by simp [Hid]⟩
      case round =>
        obtain ⟨k, rfl, hk, HA⟩ := hrel
        by_cases hlt : k < m.size
        · cases hd : isD (m[k]'hlt) with
          | true =>
            have hd2 := isD_lt hd
            have hb1 : decide (((m[k]'hlt).toNat : Int) < 48) = false := decide_eq_false (by omega)
            have hb2 : decide ((57 : Int) < ((m[k]'hlt).toNat : Int)) = false := decide_eq_false (by omega)
            have HA2 := Lib.hid (all_take_next hlt HA.out hd)
            clear hd hd2
            go_wp2_with fail
            all_goals go_round
            case rel => exact ⟨k + 1, by go_num, by omega, HA2⟩
            case measure => simp [intOf] <;> omega
          | false =>
            have HV := Lib.hid (HBAD.out (.inr (not_all hlt hd)))
            rcases isD_no hd with hd2 | ⟨hd2, hd3⟩
            · have hb1 : decide (((m[k]'hlt).toNat : Int) < 48) = true := decide_eq_true (by omega)
              clear hd hd2
              go_wp2_with fail
              go_ret2
              exact ⟨by rw [HV.out]; rfl, B1.out⟩
            · have hb1 : decide (((m[k]'hlt).toNat : Int) < 48) = false := decide_eq_false (by omega)
              have hb2 : decide ((57 : Int) < ((m[k]'hlt).toNat : Int)) = true := decide_eq_true (by omega)
              clear hd hd2 hd3
              go_wp2_with fail
              go_ret2
              exact ⟨by rw [HV.out]; rfl, B1.out⟩
        · have hall : m.data.toList.all isD = true := by
            have := HA.out
            rw [List.take_of_length_le (by rw [len_list]; omega)] at this; exact this
          have hnb : ¬ (m.size = 0 ∨ m.data.toList.all isD = false) := by rw [hall]; intro q; rcases q with q | q; exact hm0 q; cases q
          have hT := fun wx => Tryz.strings_TrimLeft_one m 48 (by decide) wx
          rw [trim_val hall] at hT
          obtain ⟨v, hv⟩ : ∃ v, v = val m.data.toList := ⟨_, rfl⟩
          have HLONG2 := Lib.hid (HLONG.out hnb)
          have HOK2 := Lib.hid (HOK.out hnb)
          have hvs : v < 10 ^ m.size := by
            rcases val_size m with q | q
            · rw [hv]; exact q
            · rw [hall] at q; cases q
          have hsv : (str v).size ≤ 100000 := Nat.le_trans (str_big hvs (by omega)) (by omega)
          rw [← hv] at hT HLONG2 HOK2
          clear hall hnb hv hvs HLONG HOK HBAD HA
          by_cases hz : v = 0
          · rw [if_pos hz] at hT
            have HT := Lib.hid hT
            have HV := Lib.hid (show V = (⟨#[48]⟩, 0) by
              rw [HOK2.out (by have := str_big (a := v) (n := 1) (by rw [hz]; decide) (by decide); omega), hz]
              have e0 : zS (-((0 : Nat) : Int)) = ⟨#[48]⟩ := zS_zero
              have e1 : zS ((0 : Nat) : Int) = ⟨#[48]⟩ := zS_zero
              split
              · rw [e0]
              · rw [e1])
            clear hT hz HLONG2 HOK2 hsv
            go_wp2_with fail
            refine (HT.out _).mono ?_
            rintro e w2 ⟨rfl, hw2⟩
            obtain rfl := hw2.symm
            go_wp2_with fail
            go_ret2
            exact ⟨by rw [HV.out]; rfl, B1.out⟩
          · rw [if_neg hz] at hT
            have HD := Lib.hid (fun wx => digitsN_any (str v) wx)
            have hnz : ((str v).toList == []) = false := by rw [nil_tl]; exact decide_eq_false (by have := str_pos v; omega)
            have HSG := Lib.hid (fun wx => signed_any N v wx (by omega))
            obtain ⟨z, hzz⟩ : ∃ z, z = zS (if N = true then -(v : Int) else (v : Int)) := ⟨_, rfl⟩
            rw [← hzz] at HSG HOK2
            obtain ⟨p, hp⟩ : ∃ p, p = str v := ⟨_, rfl⟩
            rw [← hp] at hT HD hnz HSG HLONG2 HOK2 hsv
            have HT := Lib.hid hT
            by_cases h4 : 400 < p.size
            · have hd : decide ((400 : Int) < p.size) = true := decide_eq_true (by omega)
              have HV := Lib.hid (HLONG2.out h4)
              clear hT hz HLONG2 HOK2 hp h4 hsv hzz
              go_wp2_with fail
              refine (HT.out _).mono ?_
              rintro e w2 ⟨rfl, hw2⟩
              obtain rfl := hw2.symm
              go_wp2_with fail
              refine (HD.out _).mono ?_
              rintro e w2 ⟨rfl, rfl⟩
              go_wp2_with fail
              go_ret2
              exact ⟨by rw [HV.out]; rfl, B1.out⟩
            · have hd : decide ((400 : Int) < p.size) = false := decide_eq_false (by omega)
              have HV := Lib.hid (HOK2.out h4)
              clear hT hz HLONG2 HOK2 hp h4 hsv hzz
              go_wp2_with fail
              refine (HT.out _).mono ?_
              rintro e w2 ⟨rfl, hw2⟩
              obtain rfl := hw2.symm
              go_wp2_with fail
              refine (HD.out _).mono ?_
              rintro e w2 ⟨rfl, rfl⟩
              go_wp2_with fail
              refine (HSG.out _).mono ?_
              rintro e w2 ⟨rfl, rfl⟩
              go_wp2_with fail
              go_ret2
              exact ⟨by rw [HV.out]; rfl, B1.out⟩
end Go.Proofs.YtgkfdgdlmpggpaaGreatDoor

namespace Go.Proofs.YtgkfdgdlmpggpaaGreatDoor
open Go.RowKit

theorem ext1 {u : ByteArray} (h : 0 < u.size) : (u.extract 1 u.size).data.toList = u.data.toList.tail ∧ (u.extract 1 u.size).size = u.size - 1 := by
  refine ⟨?_, by rw [ByteArray.size_extract]; omega⟩
  rw [ByteArray.data_extract, Array.toList_extract]
  have hl := len_list u
  cases hq : u.data.toList with
  | nil => rw [hq] at hl; simp at hl; omega
  | cons c l =>
    rw [hq] at hl
    simp [List.extract]
    rw [List.take_of_length_le]; simp at hl; omega
/-- a list of digits that is about to lose a zero -/
structure Dg (v : Nat) (u : ByteArray) : Prop where
  all : u.data.toList.all isD = true
  val : val u.data.toList = v
theorem Dg.step {v : Nat} {u : ByteArray} (h : Dg v u) (h0 : 0 < u.size) (hb : (((u[0]'h0).toNat : Int) == 48) = true) : Dg v (u.extract 1 u.size) := by
  obtain ⟨e, -⟩ := ext1 h0
  have hl := len_list u
  have hg := at_list u 0 h0
  have h1 := h.all
  have h2 := h.val
  cases hq : u.data.toList with
  | nil => rw [hq] at hl; simp at hl; omega
  | cons c l =>
    rw [hq] at h1 h2 e
    have hc : c.toNat = 48 := by
      have : c = u[0] := by rw [← hg]; simp [hq]
      rw [this]; have := beq_iff_eq.1 hb; omega
    rw [val_cons, hc] at h2
    simp only [List.all_cons, Bool.and_eq_true] at h1
    exact ⟨by rw [e]; exact h1.2, by rw [e]; show Go.Proofs.YtgkfdgdlmpggpaaGreatDoor.val l = v; omega⟩
theorem Dg.done {v : Nat} {u : ByteArray} (h : Dg v u) (h0 : 0 < u.size) (hx : ¬ (1 < u.size) ∨ (((u[0]'h0).toNat : Int) == 48) = false) : u = str v := by
  have hc : canonL u.data.toList = true := by
    unfold canonL
    rw [h.all, Bool.and_true, hd1 h0]
    have hl := len_list u
    have hg := at_list u 0 h0
    rcases hx with hx | hx
    · cases hq : (((u[0]'h0).toNat : Int) == 48) with
      | true =>
        rw [Bool.or_eq_true]; left
        rw [tl, beq_iff_eq]
        cases hu : u.data.toList with
        | nil => rw [hu] at hl; simp at hl; omega
        | cons c l =>
          rw [hu] at hl
          have hll : l = [] := by cases l with
            | nil => rfl
            | cons d l => simp at hl; omega
          have hcc : c = u[0] := by rw [← hg]; simp [hu]
          have : c = 48 := by rw [hcc]; have := beq_iff_eq.1 hq; exact UInt8.toNat_inj.1 (by show _ = 48; omega)
          rw [hll, this]
      | false => rw [Bool.or_eq_true]; right; rw [beq_eq_false_iff_ne] at hq; rw [bne_iff_ne]; exact hq
    · rw [Bool.or_eq_true]; right; rw [beq_eq_false_iff_ne] at hx; rw [bne_iff_ne]; exact hx
  rw [str_of hc, h.val]
end Go.Proofs.YtgkfdgdlmpggpaaGreatDoor

namespace Go.Proofs.YtgkfdgdlmpggpaaGreatDoor
open Go.RowKit

theorem val_take_le (s : ByteArray) (k : Nat) : val (s.data.toList.take k) ≤ val s.data.toList := take_le s.data.toList k
theorem tdiv_test {n d : Int} (hd0 : 0 ≤ d) (hd9 : d ≤ 9) : decide (n < (-9223372036854775808 + d).tdiv 10) = decide (n * 10 - d < -9223372036854775808) := by
  have h : (-9223372036854775808 + d).tdiv 10 = -((9223372036854775808 - d) / 10) := by
    rw [show -9223372036854775808 + d = -(9223372036854775808 - d) by omega, Int.neg_tdiv, Int.tdiv_eq_ediv_of_nonneg (by omega)]
  rw [h, Bool.eq_iff_iff, decide_eq_true_iff, decide_eq_true_iff]
  omega
theorem tdiv_rng {d : Int} (hd0 : 0 ≤ d) (hd9 : d ≤ 9) : -922337203685477581 ≤ (-9223372036854775808 + d).tdiv 10 ∧ (-9223372036854775808 + d).tdiv 10 ≤ 0 := by
  have h : (-9223372036854775808 + d).tdiv 10 = -((9223372036854775808 - d) / 10) := by
    rw [show -9223372036854775808 + d = -(9223372036854775808 - d) by omega, Int.neg_tdiv, Int.tdiv_eq_ediv_of_nonneg (by omega)]
  rw [h]; omega
/-- the loop of the reference's Small: over a text whose digits begin at place o -/
structure SmT (s : ByteArray) (o a : Nat) : Prop where
  sz : o < s.size
  lim : s.size ≤ 1000001
  dig : ∀ k (h : k < s.size), o ≤ k → isD (s[k]'h) = true
  vl : ∀ k (h : k < s.size), o ≤ k → val ((s.data.toList.drop o).take (k + 1 - o)) = 10 * val ((s.data.toList.drop o).take (k - o)) + ((s[k]'h).toNat - 48)
  all : val ((s.data.toList.drop o).take (s.size - o)) = a
  le : ∀ k, val ((s.data.toList.drop o).take k) ≤ a
theorem smT_of {s : ByteArray} {o a : Nat} (hd : s.data.toList.drop o = Lib.decDigits a) (hs : o < s.size) (hl : s.size ≤ 1000001) : SmT s o a := by
  have hle := len_list s
  have hg : ∀ k (h : k < s.size), o ≤ k → (Lib.decDigits a)[k - o]? = some (s[k]'h) := fun k h ho => by
    rw [← hd, List.getElem?_drop, show o + (k - o) = k by omega, List.getElem?_eq_getElem (by omega), at_list]
  refine ⟨hs, hl, fun k h ho => ?_, fun k h ho => ?_, ?_, fun k => ?_⟩
  · have hm := List.mem_of_getElem? (hg k h ho)
    exact List.all_eq_true.1 (all_dd a) _ hm
  · have h1 := hg k h ho
    rw [hd, show k + 1 - o = (k - o) + 1 by omega, List.take_add_one, h1, Option.toList_some, val_snoc]
  · rw [hd, List.take_of_length_le, val_dd]
    rw [← hd, List.length_drop]; omega
  · rw [hd]
    have := take_le (Lib.decDigits a) k
    rw [val_dd] at this; exact this
theorem smT_pos (z : Int) (h : ¬ z < 0) (hz : (str z.natAbs).size ≤ 1000000) : SmT (zS z) 0 z.natAbs := by
  rw [zS_pos h]
  exact smT_of (by rw [List.drop_zero, str_list]) (str_pos _) (by omega)
theorem smT_neg (z : Int) (h : z < 0) (hz : (str z.natAbs).size ≤ 1000000) : SmT (zS z) 1 z.natAbs := by
  rw [zS_neg h]
  have hn := negS z.natAbs
  refine smT_of ?_ (by have := hn.sz; have := str_pos z.natAbs; omega) (by have := hn.sz; omega)
  rw [ByteArray.data_append, Array.toList_append, ← str_list]; rfl
theorem inI_of {z : Int} : inI z = true ↔ -9223372036854775808 ≤ z ∧ z ≤ 9223372036854775807 := by
  unfold inI; rw [Bool.and_eq_true, decide_eq_true_iff, decide_eq_true_iff]
theorem inI_no {z : Int} (h : ¬ (-9223372036854775808 ≤ z ∧ z ≤ 9223372036854775807)) : inI z = false := by
  cases hi : inI z with
  | false => rfl
  | true => exact absurd (inI_of.1 hi) h
end Go.Proofs.YtgkfdgdlmpggpaaGreatDoor

namespace Go.Proofs.YtgkfdgdlmpggpaaGreatDoor
open Go.RowKit

theorem neg_cat (D : ByteArray) : negB (⟨#[45]⟩ ++ D) = true ∧ magB (⟨#[45]⟩ ++ D) = D := by
  have hd : (⟨#[45]⟩ ++ D : ByteArray).data.toList = 45 :: D.data.toList := by
    rw [ByteArray.data_append]; simp
  have h1 : negB (⟨#[45]⟩ ++ D) = true := by unfold negB; rw [hd]; rfl
  refine ⟨h1, ?_⟩
  unfold magB
  rw [if_pos h1]
  have h0 : 0 < (⟨#[45]⟩ ++ D : ByteArray).size := by rw [ByteArray.size_append]; show 0 < 1 + _; omega
  apply ByteArray.ext
  apply Array.toList_inj.1
  rw [(ext1 h0).1, hd]; rfl
theorem pos_mag {D : ByteArray} (h : D.data.toList.all isD = true) : negB D = false ∧ magB D = D := by
  have h1 : negB D = false := by
    rcases Nat.eq_zero_or_pos D.size with hz | hz
    · exact negB_nil hz
    · rw [negB_at hz, beq_eq_false_iff_ne]
      have hm : (D[0]'hz) ∈ D.data.toList := by rw [← at_list D 0 hz]; exact List.getElem_mem _
      have := isD_lt (List.all_eq_true.1 h _ hm)
      omega
  exact ⟨h1, by unfold magB; rw [h1]; rfl⟩
theorem parV_neg {D : ByteArray} (h : D.data.toList.all isD = true) (h0 : 0 < D.size) (hv : (str (val D.data.toList)).size ≤ 400) : parV (⟨#[45]⟩ ++ D) = (zS (-((val D.data.toList : Nat) : Int)), 0) := by
  obtain ⟨h1, h2⟩ := neg_cat D
  have hs : ¬ (⟨#[45]⟩ ++ D : ByteArray).size = 0 := by rw [ByteArray.size_append]; show ¬ 1 + _ = 0; omega
  rw [parV_ok hs (by rw [h2, h]; intro q; rcases q with q | q; omega; cases q) (by rw [h2]; omega), h1, h2, if_pos rfl]
theorem parV_pos {D : ByteArray} (h : D.data.toList.all isD = true) (h0 : 0 < D.size) (hv : (str (val D.data.toList)).size ≤ 400) : parV D = (zS ((val D.data.toList : Nat) : Int), 0) := by
  obtain ⟨h1, h2⟩ := pos_mag h
  rw [parV_ok (by omega) (by rw [h2, h]; intro q; rcases q with q | q; omega; cases q) (by rw [h2]; omega), h1, h2, if_neg (by decide)]
theorem parV_zS {z : Int} (hz : (str z.natAbs).size ≤ 400) : parV (zS z) = (zS z, 0) := by
  have hp := str_pos z.natAbs
  have hd : (str z.natAbs).data.toList.all isD = true := by rw [str_list]; exact all_dd _
  by_cases h : z < 0
  · rw [zS_neg h, parV_neg hd hp (by rw [val_str]; exact hz), val_str, zS_neg (z := -((z.natAbs : Nat) : Int)) (by omega), show (-((z.natAbs : Nat) : Int)).natAbs = z.natAbs by omega]
  · rw [zS_pos h, parV_pos hd hp (by rw [val_str]; exact hz), val_str, zS_of_nat]
theorem one_cvW (d : Nat) (hd : d < 10) (wx : World) :
    (convert 98 9 (.slice (some ⟨wx.heap.size, 0, none⟩) 1 1)).run Tryz.prog (wx.alloc (.cells #[.int .u8 (48 + (d : Int))] 5)) = .ok (.string ⟨#[UInt8.ofNat (48 + d)]⟩) (wx.alloc (.cells #[.int .u8 (48 + (d : Int))] 5)) :=
  run_convert_bytes_back (P := Tryz.prog) _ 98 9 5 ⟨wx.heap.size, 0, none⟩ 1 [UInt8.ofNat (48 + d)] Tryz.underlying98 Tryz.underlying5 Tryz.underlying9 (fun j hj => by
    have hj0 : j = 0 := by simp at hj; omega
    subst hj0
    have hc : (wx.alloc (.cells #[.int .u8 (48 + (d : Int))] 5)).cell? ⟨wx.heap.size, 0, none⟩ = some (.int .u8 (48 + (d : Int))) := by rw [World.cell?_alloc_new]; rfl
    refine hc.trans ?_
    show some (Value.int .u8 (48 + (d : Int))) = some (Value.int .u8 ((UInt8.ofNat (48 + d)).toNat : Int))
    rw [ofNat_dig hd]; push_cast; rfl)
theorem cat_one (L : List UInt8) (c : UInt8) : (⟨L.toArray⟩ ++ ⟨#[c]⟩ : ByteArray) = ⟨(L ++ [c]).toArray⟩ := by
  apply ByteArray.ext
  rw [ByteArray.data_append]; simp
/-- what the walk is told of a number that came in -/
def IsNum (w : World) (v : Value) : Prop := ∃ (b : Bool) (a : Option Addr) (len cap : Nat) (zs : List Int), v = .agg #[.bool b, .slice a len cap] ∧ IsRow .u8 w a len cap zs
end Go.Proofs.YtgkfdgdlmpggpaaGreatDoor
