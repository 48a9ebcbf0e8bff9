/-
  isCanonical.
-/
import Derived.Test.YtkpaopfdnfgjeaaGreatDoorShelf
import Derived.Test.YtkpaopfdnfgjeaaGreatDoorWInt
import Derived.Shelf.Strings.SlTrimAscii
namespace Go.Proofs.YtkpaopfdnfgjeaaGreatDoor
open Go.RowKit

/-- the digits behind a minus sign -/
def magL (l : List UInt8) : List UInt8 := Lib.trimPrefix l [45]
theorem magL_neg (r : List UInt8) : magL (45 :: r) = r := trimP_cons 45 r
theorem magL_pos {l : List UInt8} (h : l.head? ≠ some 45) : magL l = l := by
  unfold magL Lib.trimPrefix
  cases l with
  | nil => rfl
  | cons c r =>
    rw [hasP_cons]
    have : ((45 : UInt8) == c) = false := by simp; intro e; apply h; rw [← e]; rfl
    rw [this]; rfl
/-- what isCanonical asks, one thing after another -/
theorem can_mag (l : List UInt8) : canB l = (!(magL l == []) && !((magL l).head? == some 48 && !(l == [48])) && (magL l).all isDg) := by
  by_cases h : l.head? = some 45
  · cases l with
    | nil => cases h
    | cons c r =>
      rw [List.head?_cons, Option.some.injEq] at h
      subst h
      rw [magL_neg]
      have h3 : ((45 : UInt8) :: r == [48]) = false := by rw [beq_eq_false_iff_ne]; intro e; cases e
      rw [h3]
      cases r with
      | nil => decide
      | cons d r =>
        unfold canB
        rw [if_pos ⟨by simp, rfl⟩, List.tail_cons]
        have e1 : (d :: r == ([] : List UInt8)) = false := rfl
        rw [e1]
        cases hd : ((d :: r).head? == some 48) with
        | true => simp
        | false =>
          unfold natB
          rw [hd]
          cases (d :: r).all isDg with
          | false => simp
          | true =>
            simp
            cases r <;> simp
  · rw [magL_pos h]
    have e : canB l = natB l := by unfold canB; rw [if_neg (fun hh => h hh.2)]
    rw [e]
    cases l with
    | nil => decide
    | cons d r =>
      unfold natB
      cases r with
      | nil => simp
      | cons d2 r2 =>
        have h3 : (d :: d2 :: r2 == [48]) = false := by rw [beq_eq_false_iff_ne]; intro e; cases e
        have e1 : (d :: d2 :: r2 == ([] : List UInt8)) = false := rfl
        rw [h3, e1]
        cases hd : ((d :: d2 :: r2).head? == some 48) <;> cases (d :: d2 :: r2).all isDg <;> simp
theorem btl (s : ByteArray) : s.toList = s.data.toList := by
  have h := Lib.extract_toList s 0 s.size
  have e : s.extract 0 s.size = s := by
    apply ByteArray.ext
    rw [show (s.extract 0 s.size).data = s.data.extract 0 s.size from ByteArray.data_extract ..]
    exact Array.extract_size
  rw [e] at h
  rw [h, List.drop_zero, Nat.sub_zero, List.take_of_length_le (by rw [wlen_list]; exact Nat.le_refl _)]
set_option maxHeartbeats 1600000 in
theorem can_any (s : ByteArray) (w : World) (hs : s.size ≤ 100000) :
    Calls Tryz.prog 20 #[.string s] w fun e w' => e = .returned (.bool (canB s.data.toList)) ∧ Below w.heap.size w w' := by
  have hc := can_mag s.data.toList
  have hsz := trimP_len s.data.toList [45]
  rw [wlen_list] at hsz
  have HP := Lib.hid (fun wx => Tryz.strings_TrimPrefix s ⟨#[45]⟩ wx)
  obtain ⟨u, hu⟩ : ∃ u : ByteArray, u = ⟨(Lib.trimPrefix s.data.toList [45]).toArray⟩ := ⟨_, rfl⟩
  have hul : u.data.toList = magL s.data.toList := by rw [hu]; unfold magL; simp
  change Hid (∀ wx, Calls _ _ _ wx fun e w' => e = .returned (.string ⟨(Lib.trimPrefix s.data.toList [45]).toArray⟩) ∧ _) at HP
  rw [← hu] at HP
  rw [← hul] at hc
  have husz : u.size ≤ 100000 := by rw [← wlen_list, hul]; unfold magL; omega
  have HT := Lib.hid (fun wx => Any.strings_Trim_laid (P := Tryz.prog) Tryz.lays160 (by kernel_rfl) u ⟨#[48, 49, 50, 51, 52, 53, 54, 55, 56, 57]⟩ wx (by omega) (by decide) (ascii_of_all (by decide)))
  have HCC := Lib.hid hc
  have HUL := Lib.hid hul
  clear hc hu hul hsz
  have hh : ∀ h0 : 0 < u.size, u.data.toList.head? = some (u[0]'h0) := by
    intro h0
    rw [List.head?_eq_getElem?, List.getElem?_eq_getElem (by rw [wlen_list]; exact h0), wat_list u 0 h0]
  by_cases h0 : u.size = 0
  · have hu0 : u.data.toList = [] := List.eq_nil_of_length_eq_zero (by rw [wlen_list]; exact h0)
    have hu1 : u.toList = [] := by rw [btl]; exact hu0
    have HN := Lib.hid (show canB s.data.toList = false by rw [HCC.out, hu0]; rfl)
    clear hu0 hh h0
    go_enter Tryz.func20, Tryz.ntmps20
    go_wp2_with fail
    refine (HP.out _).mono ?_
    rintro e w1 ⟨rfl, hw⟩
    obtain rfl := hw
    go_wp2_with fail
    go_ret
    exact ⟨by rw [HN.out]; rfl, Below.refl _ _⟩
  · have h1 : 0 < u.size := by omega
    have hh1 := hh h1
    have hne : u.toList.isEmpty = false := by
      rw [btl]
      cases he : u.data.toList with
      | nil => rw [he] at hh1; cases hh1
      | cons c r => rfl
    have hne2 : ¬ u.toList = [] := by intro e; rw [e] at hne; cases hne
    have hc0 : (u.data.toList == []) = false := by rw [btl] at hne2; simpa using hne2
    clear hh h0
    rw [hh1, hc0] at HCC
    by_cases hb : (u[0]'h1) = 48 ∧ (s.data.toList == [48]) = false
    · obtain ⟨hb1, hb2⟩ := hb
      have HN := Lib.hid (show canB s.data.toList = false by rw [HCC.out, hb1, hb2]; rfl)
      have g1 : ((u[0]'h1).toNat : Int) = 48 := by rw [hb1]; rfl
      have g2 : (s.toList == [48]) = false := by rw [btl]; exact hb2
      clear hb1 hb2 hh1 hc0
      go_enter Tryz.func20, Tryz.ntmps20
      go_wp2_with fail
      refine (HP.out _).mono ?_
      rintro e w1 ⟨rfl, hw⟩
      obtain rfl := hw
      go_wp2_with fail
      go_ret
      exact ⟨by rw [HN.out]; rfl, Below.refl _ _⟩
    · have hq : canB s.data.toList = u.data.toList.all isDg := by
        rw [HCC.out]
        have : (some (u[0]'h1) == some 48 && !(s.data.toList == [48])) = false := by
          cases hz : (s.data.toList == [48]) with
          | true => simp
          | false =>
            have : ¬ (u[0]'h1) = 48 := fun e => hb ⟨e, hz⟩
            simp [this]
        rw [this]; rfl
      have HQ := Lib.hid hq
      have hor : ¬ ((u[0]'h1).toNat : Int) = 48 ∨ (((u[0]'h1).toNat : Int) = 48 ∧ (s.toList == [48]) = true) := by
        by_cases e : (u[0]'h1) = 48
        · refine .inr ⟨by rw [e]; rfl, ?_⟩
          rw [btl]
          cases hz : (s.data.toList == [48]) with
          | true => rfl
          | false => exact absurd ⟨e, hz⟩ hb
        · refine .inl (fun e2 => e ?_)
          rw [← UInt8.toNat_inj]; show _ = 48; omega
      clear hq hb hh1 hc0 HCC
      cases hd : u.data.toList.all isDg with
      | true =>
        have HV := Lib.hid (trim_yes hd)
        rw [hd] at HQ
        have HT2 := Lib.hid (fun wx => (HT.out wx).mono fun e w' h => (⟨by rw [h.1]; exact congrArg (fun x : List UInt8 => Ending.returned (.string ⟨x.toArray⟩)) HV.out, h.2⟩ : e = .returned (.string ⟨#[]⟩) ∧ Below wx.heap.size wx w'))
        clear hd HT HV
        rcases hor with g1 | ⟨g1, g2⟩
        all_goals
          go_enter Tryz.func20, Tryz.ntmps20
          go_wp2_with fail
          refine (HP.out _).mono ?_
          rintro e w1 ⟨rfl, hw⟩
          obtain rfl := hw
          go_wp2_with fail
          refine (HT2.out _).mono ?_
          rintro e w2 ⟨rfl, h2⟩
          have H2 := Lib.hid h2
          clear h2
          go_wp2_with fail
          go_ret
          exact ⟨by rw [HQ.out]; rfl, H2.out⟩
      | false =>
        have hv := trim_no hd
        rw [hd] at HQ
        obtain ⟨v, hv2⟩ : ∃ v : ByteArray, v = ⟨(Lib.trimS u.data.toList digL).toArray⟩ := ⟨_, rfl⟩
        have hv3 : v.toList.isEmpty = false := by
          rw [btl, hv2]
          simpa using hv
        have hv4 : ¬ v.toList = [] := by intro e; rw [e] at hv3; cases hv3
        have HT2 := Lib.hid (fun wx => (HT.out wx).mono fun e w' h => (⟨by rw [h.1, hv2]; rfl, h.2⟩ : e = .returned (.string v) ∧ Below wx.heap.size wx w'))
        clear hd HT hv hv2
        rcases hor with g1 | ⟨g1, g2⟩
        all_goals
          go_enter Tryz.func20, Tryz.ntmps20
          go_wp2_with fail
          refine (HP.out _).mono ?_
          rintro e w1 ⟨rfl, hw⟩
          obtain rfl := hw
          go_wp2_with fail
          refine (HT2.out _).mono ?_
          rintro e w2 ⟨rfl, h2⟩
          have H2 := Lib.hid h2
          clear h2
          go_wp2_with fail
          go_ret
          exact ⟨by rw [HQ.out]; rfl, H2.out⟩
end Go.Proofs.YtkpaopfdnfgjeaaGreatDoor
