/-
  Package whole: Parse, the program's and the reference's.
-/
import Derived.Test.YtjebddpapbopnaaGreatDoorZBz2
namespace Go.Proofs.YtjebddpapbopnaaGreatDoor
open Go.RowKit

def parV (s : ByteArray) : ByteArray × Int :=
  if s.size = 0 then (⟨#[]⟩, 13) else if (magB s).size = 0 ∨ (magB s).data.toList.all isD = false then (⟨#[]⟩, 15) else
  if 400 < (str (val (magB s).data.toList)).size then (⟨#[]⟩, 4) else (zS (if negB s = true then -((val (magB s).data.toList : Nat) : Int) else ((val (magB s).data.toList : Nat) : Int)), 0)
theorem parV_nil {s : ByteArray} (h : s.size = 0) : parV s = (⟨#[]⟩, 13) := if_pos h
theorem parV_bad {s : ByteArray} (h : ¬ s.size = 0) (h2 : (magB s).size = 0 ∨ (magB s).data.toList.all isD = false) : parV s = (⟨#[]⟩, 15) := by
  unfold parV; rw [if_neg h, if_pos h2]
theorem parV_long {s : ByteArray} (h : ¬ s.size = 0) (h2 : ¬ ((magB s).size = 0 ∨ (magB s).data.toList.all isD = false)) (h3 : 400 < (str (val (magB s).data.toList)).size) : parV s = (⟨#[]⟩, 4) := by
  unfold parV; rw [if_neg h, if_neg h2, if_pos h3]
theorem parV_ok {s : ByteArray} (h : ¬ s.size = 0) (h2 : ¬ ((magB s).size = 0 ∨ (magB s).data.toList.all isD = false)) (h3 : ¬ 400 < (str (val (magB s).data.toList)).size) : parV s = (zS (if negB s = true then -((val (magB s).data.toList : Nat) : Int) else ((val (magB s).data.toList : Nat) : Int)), 0) := by
  unfold parV; rw [if_neg h, if_neg h2, if_neg h3]
theorem nil_tl {s : ByteArray} : (s.toList == []) = decide (s.size = 0) := by
  rw [tl]
  have hl := len_list s
  by_cases h : s.size = 0
  · rw [decide_eq_true h, beq_iff_eq]; rw [h] at hl; exact List.length_eq_zero_iff.1 hl
  · rw [decide_eq_false h, beq_eq_false_iff_ne]; intro q; rw [q] at hl; simp at hl; omega
theorem all_take_next {s : ByteArray} {k : Nat} (h : k < s.size) (ha : (s.data.toList.take k).all isD = true) (hd : isD (s[k]'h) = true) : (s.data.toList.take (k + 1)).all isD = true := by
  rw [List.take_add_one, List.getElem?_eq_getElem (by rw [len_list]; exact h), at_list s k h, Option.toList_some, List.all_append, ha]
  simp [hd]
theorem not_all {s : ByteArray} {k : Nat} (h : k < s.size) (hd : isD (s[k]'h) = false) : s.data.toList.all isD = false := by
  cases ha : s.data.toList.all isD with
  | false => rfl
  | true =>
    have hm : (s[k]'h) ∈ s.data.toList := by rw [← at_list s k h]; exact List.getElem_mem _
    have := List.all_eq_true.1 ha _ hm
    rw [hd] at this; cases this
theorem isD_no {c : UInt8} (h : isD c = false) : c.toNat < 48 ∨ (48 ≤ c.toNat ∧ 57 < c.toNat) := by
  simp [isD] at h; omega
theorem drop0_zero {l : List UInt8} (h : l.all isD = true) (hv : val l = 0) : l.dropWhile (· == 48) = [] := by
  cases e : l.dropWhile (· == 48) with
  | nil => rfl
  | cons c m =>
    have h1 := all_drop0 l h
    have h2 := val_drop0 l
    have h3 := head_drop0 l
    rw [e] at h1 h2 h3
    rw [hv, val_cons] at h2
    simp only [List.all_cons, Bool.and_eq_true] at h1
    have h4 := isD_lt h1.1
    have h5 : c.toNat - 48 ≠ 0 := by
      intro q
      have : c = 48 := UInt8.toNat_inj.1 (by show _ = 48; omega)
      rw [this] at h3; simp at h3
    have h6 : 0 < 10 ^ m.length := Nat.pow_pos (by decide)
    have h7 : 1 * 10 ^ m.length ≤ (c.toNat - 48) * 10 ^ m.length := Nat.mul_le_mul_right _ (by omega)
    omega
theorem trim_val {s : ByteArray} (h : s.data.toList.all isD = true) : (⟨(Lib.trimLeftB s.data.toList 48).toArray⟩ : ByteArray) = if val s.data.toList = 0 then ⟨#[]⟩ else str (val s.data.toList) := by
  unfold Lib.trimLeftB
  by_cases hv : val s.data.toList = 0
  · rw [if_pos hv, drop0_zero h hv]
  · rw [if_neg hv, canon_drop0 h (by omega)]; rfl
theorem val_size (s : ByteArray) : val s.data.toList < 10 ^ s.size ∨ s.data.toList.all isD = false := by
  cases h : s.data.toList.all isD with
  | false => exact .inr rfl
  | true => left; have := val_lt _ h; rw [len_list] at this; exact this
set_option maxHeartbeats 3200000 in
set_option maxRecDepth 100000 in
theorem parW_any (s : ByteArray) (w : World) (hs : s.size ≤ 100000) :
    Calls Tryz.prog 22 #[.string s] w fun e w' => e = .returned (.tuple #[.string (parV s).1, .int .i64 (parV s).2]) ∧ Below w.heap.size w w' := by
  by_cases h0 : s.size = 0
  · have HV := Lib.hid (parV_nil h0)
    have hn : (s.toList == []) = true := by rw [nil_tl]; exact decide_eq_true h0
    obtain ⟨V, hV⟩ : ∃ V, V = parV s := ⟨_, rfl⟩
    rw [← hV] at HV ⊢
    clear hV h0 hs
    go_enter Tryz.func22, Tryz.ntmps22
    go_wp2_with fail
    go_ret2
    exact ⟨by rw [HV.out]; rfl, Below.refl _ _⟩
  · have hn : (s.toList == []) = false := by rw [nil_tl]; exact decide_eq_false h0
    have HX := Lib.hid (fun wx => splitG_any s wx (by omega))
    have hml := magB_len (s := s)
    have HBAD := Lib.hid (fun h => parV_bad (s := s) h0 h)
    have HLONG := Lib.hid (fun h => parV_long (s := s) h0 h)
    have HOK := Lib.hid (fun h => parV_ok (s := s) h0 h)
    obtain ⟨V, hV⟩ : ∃ V, V = parV s := ⟨_, rfl⟩
    obtain ⟨m, hm⟩ : ∃ m, m = magB s := ⟨_, rfl⟩
    obtain ⟨N, hN⟩ : ∃ N, N = negB s := ⟨_, rfl⟩
    rw [← hV, ← hm] at HBAD HLONG HOK
    rw [← hN] at HOK
    rw [← hV]
    rw [← hm] at hml
    rw [← hm, ← hN] at HX
    clear hV hm hN h0
    by_cases hm0 : m.size = 0
    · have hmn : (m.toList == []) = true := by rw [nil_tl]; exact decide_eq_true hm0
      have HV := Lib.hid (HBAD.out (.inl hm0))
      clear hm0
      go_enter Tryz.func22, Tryz.ntmps22
      go_wp2_with fail
      refine (HX.out _).mono ?_
      rintro e w1 ⟨rfl, h1⟩
      have B1 := Lib.hid h1
      clear h1
      go_wp2_with fail
      go_ret2
      exact ⟨by rw [HV.out]; rfl, B1.out⟩
    · have hmn : (m.toList == []) = false := by rw [nil_tl]; exact decide_eq_false hm0
      go_enter Tryz.func22, Tryz.ntmps22
      go_wp2_with fail
      refine (HX.out _).mono ?_
      rintro e w1 ⟨rfl, h1⟩
      have B1 := Lib.hid h1
      clear h1
      go_wp2_with fail
      go_loop [6, 19] (fun _ iv => ∃ k : Nat, iv = .int .i64 k ∧ k ≤ m.size ∧ Hid ((m.data.toList.take k).all isD = true)) (fun _ iv => m.size - (intOf iv).toNat)
      case atStart => exact ⟨0, rfl, Nat.zero_le _, by simp [Hid]⟩
      case round =>
        obtain ⟨k, rfl, hk, HA⟩ := hrel
        by_cases hlt : k < m.size
        · cases hd : isD (m[k]'hlt) with
          | true =>
            have hd2 := isD_lt hd
            have hb1 : decide (((m[k]'hlt).toNat : Int) < 48) = false := decide_eq_false (by omega)
            have hb2 : decide ((57 : Int) < ((m[k]'hlt).toNat : Int)) = false := decide_eq_false (by omega)
            have HA2 := Lib.hid (all_take_next hlt HA.out hd)
            clear hd hd2
            go_wp2_with fail
            all_goals go_round
            case rel => exact ⟨k + 1, by go_num, by omega, HA2⟩
            case measure => simp [intOf] <;> omega
          | false =>
            have HV := Lib.hid (HBAD.out (.inr (not_all hlt hd)))
            rcases isD_no hd with hd2 | ⟨hd2, hd3⟩
            · have hb1 : decide (((m[k]'hlt).toNat : Int) < 48) = true := decide_eq_true (by omega)
              clear hd hd2
              go_wp2_with fail
              go_ret2
              exact ⟨by rw [HV.out]; rfl, B1.out⟩
            · have hb1 : decide (((m[k]'hlt).toNat : Int) < 48) = false := decide_eq_false (by omega)
              have hb2 : decide ((57 : Int) < ((m[k]'hlt).toNat : Int)) = true := decide_eq_true (by omega)
              clear hd hd2 hd3
              go_wp2_with fail
              go_ret2
              exact ⟨by rw [HV.out]; rfl, B1.out⟩
        · have hall : m.data.toList.all isD = true := by
            have := HA.out
            rw [List.take_of_length_le (by rw [len_list]; omega)] at this; exact this
          have hnb : ¬ (m.size = 0 ∨ m.data.toList.all isD = false) := by rw [hall]; intro q; rcases q with q | q; exact hm0 q; cases q
          have hT := fun wx => Tryz.strings_TrimLeft_one m 48 (by decide) wx
          rw [trim_val hall] at hT
          obtain ⟨v, hv⟩ : ∃ v, v = val m.data.toList := ⟨_, rfl⟩
          have HLONG2 := Lib.hid (HLONG.out hnb)
          have HOK2 := Lib.hid (HOK.out hnb)
          have hvs : v < 10 ^ m.size := by
            rcases val_size m with q | q
            · rw [hv]; exact q
            · rw [hall] at q; cases q
          have hsv : (str v).size ≤ 100000 := Nat.le_trans (str_big hvs (by omega)) (by omega)
          rw [← hv] at hT HLONG2 HOK2
          clear hall hnb hv hvs HLONG HOK HBAD HA
          by_cases hz : v = 0
          · rw [if_pos hz] at hT
            have HT := Lib.hid hT
            have HV := Lib.hid (show V = (⟨#[48]⟩, 0) by
              rw [HOK2.out (by have := str_big (a := v) (n := 1) (by rw [hz]; decide) (by decide); omega), hz]
              have e0 : zS (-((0 : Nat) : Int)) = ⟨#[48]⟩ := zS_zero
              have e1 : zS ((0 : Nat) : Int) = ⟨#[48]⟩ := zS_zero
              split
              · rw [e0]
              · rw [e1])
            clear hT hz HLONG2 HOK2 hsv
            go_wp2_with fail
            refine (HT.out _).mono ?_
            rintro e w2 ⟨rfl, hw2⟩
            obtain rfl := hw2.symm
            go_wp2_with fail
            go_ret2
            exact ⟨by rw [HV.out]; rfl, B1.out⟩
          · rw [if_neg hz] at hT
            have HD := Lib.hid (fun wx => digitsN_any (str v) wx)
            have hnz : ((str v).toList == []) = false := by rw [nil_tl]; exact decide_eq_false (by have := str_pos v; omega)
            have HSG := Lib.hid (fun wx => signed_any N v wx (by omega))
            obtain ⟨z, hzz⟩ : ∃ z, z = zS (if N = true then -(v : Int) else (v : Int)) := ⟨_, rfl⟩
            rw [← hzz] at HSG HOK2
            obtain ⟨p, hp⟩ : ∃ p, p = str v := ⟨_, rfl⟩
            rw [← hp] at hT HD hnz HSG HLONG2 HOK2 hsv
            have HT := Lib.hid hT
            by_cases h4 : 400 < p.size
            · have hd : decide ((400 : Int) < p.size) = true := decide_eq_true (by omega)
              have HV := Lib.hid (HLONG2.out h4)
              clear hT hz HLONG2 HOK2 hp h4 hsv hzz
              go_wp2_with fail
              refine (HT.out _).mono ?_
              rintro e w2 ⟨rfl, hw2⟩
              obtain rfl := hw2.symm
              go_wp2_with fail
              refine (HD.out _).mono ?_
              rintro e w2 ⟨rfl, rfl⟩
              go_wp2_with fail
              go_ret2
              exact ⟨by rw [HV.out]; rfl, B1.out⟩
            · have hd : decide ((400 : Int) < p.size) = false := decide_eq_false (by omega)
              have HV := Lib.hid (HOK2.out h4)
              clear hT hz HLONG2 HOK2 hp h4 hsv hzz
              go_wp2_with fail
              refine (HT.out _).mono ?_
              rintro e w2 ⟨rfl, hw2⟩
              obtain rfl := hw2.symm
              go_wp2_with fail
              refine (HD.out _).mono ?_
              rintro e w2 ⟨rfl, rfl⟩
              go_wp2_with fail
              refine (HSG.out _).mono ?_
              rintro e w2 ⟨rfl, rfl⟩
              go_wp2_with fail
              go_ret2
              exact ⟨by rw [HV.out]; rfl, B1.out⟩
end Go.Proofs.YtjebddpapbopnaaGreatDoor
