/-
  The walk of the law RowChecks.
-/
import Derived.Test.YtgcddiakdmddjaaDoorWAll
namespace Go.Proofs.YtgcddiakdmddjaaDoor
open Go.RowKit

theorem RdM.nil (w : World) : RdM w none 0 0 [] := ⟨rfl, Nat.le_refl _, by unfold maxLen; omega, fun i h => by simp at h, .inl rfl⟩
/-- the error that the law wants -/
theorem want_ways (z : List Int) (l : Nat) (n : Int) : (okB z = false ∧ (∀ a c, allE n [⟨a, l, c, z⟩] = 4)) ∨ (okB z = true ∧ (l : Int) ≠ n ∧ ∀ a c, allE n [⟨a, l, c, z⟩] = 5) ∨ (okB z = true ∧ (l : Int) = n ∧ ∀ a c, allE n [⟨a, l, c, z⟩] = 0) := by
  cases ok : okB z with
  | false => exact .inl ⟨rfl, fun a c => by show (if okB z = true then _ else (4 : Int)) = 4; rw [if_neg (by simp [ok])]⟩
  | true =>
    by_cases h : (l : Int) = n
    · exact .inr (.inr ⟨rfl, h, fun a c => by show (if okB z = true then (if (l : Int) = n then (0 : Int) else 5) else 4) = 0; rw [if_pos ok, if_pos h]⟩)
    · exact .inr (.inl ⟨rfl, h, fun a c => by show (if okB z = true then (if (l : Int) = n then (0 : Int) else 5) else 4) = 5; rw [if_pos ok, if_neg h]⟩)
theorem zeros_ok {N : Nat} (h : N ≤ 64) : okB (List.replicate N 0) = true := okB_good (by simpa using h) (List.all_eq_true.2 fun z hz => by rw [(List.mem_replicate.1 hz).2]; decide)

/-- CheckAll of the row alone -/
theorem ca_one (a : Option Addr) (l c : Nat) (z : List Int) (n E : Int) (w wx : World) (h : Rd w a l c z) (hb : Below w.heap.size w wx) (he : ∀ a c, allE n [⟨a, l, c, z⟩] = E) :
    Calls Tryd.prog 14 #[.slice (some ⟨wx.heap.size, 0, none⟩) 1 1, .int .i64 n] (wx.alloc (.cells #[.slice a l c] 23)) fun e w' => e = .returned (.int .i64 E) ∧ Below wx.heap.size wx w' := by
  have hm := RdM.lit wx [⟨a, l, c, z⟩] #[.slice a l c] 23 rfl (fun i hi => by
    have : i = 0 := by simpa using hi
    subst this; exact h.below hb) (by simp)
  have := checkAll_any _ _ _ _ n _ hm
  rw [he] at this
  exact this.mono fun e w' ⟨h1, h2⟩ => ⟨h1, by rw [← h2]; exact below_alloc _⟩
theorem ca_two (a : Option Addr) (l c : Nat) (z : List Int) (N g : Nat) (E : Int) (w wx : World) (h : Rd w a l c z) (hb : Below w.heap.size w wx) (h0 : Rd wx (some ⟨g, 0, none⟩) N N (List.replicate N 0)) (hN : N ≤ 64) (he : ∀ a c, allE (N : Int) [⟨a, l, c, z⟩] = E) :
    Calls Tryd.prog 14 #[.slice (some ⟨wx.heap.size, 0, none⟩) 2 2, .int .i64 (N : Int)] (wx.alloc (.cells #[.slice (some ⟨g, 0, none⟩) N N, .slice a l c] 23)) fun e w' => e = .returned (.int .i64 E) ∧ Below wx.heap.size wx w' := by
  have hm := RdM.lit wx [⟨some ⟨g, 0, none⟩, N, N, List.replicate N 0⟩, ⟨a, l, c, z⟩] #[.slice (some ⟨g, 0, none⟩) N N, .slice a l c] 23 rfl (fun i hi => by
    match i, hi with
    | 0, _ => exact h0
    | 1, _ => exact h.below hb) (by simp)
  have := checkAll_any _ _ _ _ (N : Int) _ hm
  have e2 : allE (N : Int) [⟨some ⟨g, 0, none⟩, N, N, List.replicate N 0⟩, ⟨a, l, c, z⟩] = E := by
    rw [← he a c]
    show (if okB (List.replicate N 0) = true then (if (N : Int) = (N : Int) then _ else (5 : Int)) else 4) = _
    rw [if_pos (zeros_ok hN), if_pos rfl]
  rw [e2] at this
  exact this.mono fun e w' ⟨h1, h2⟩ => ⟨h1, by rw [← h2]; exact below_alloc _⟩

set_option maxHeartbeats 1600000 in
set_option maxRecDepth 100000 in
theorem checks_long (a : Option Addr) (l c : Nat) (z : List Int) (n : Int) (w : World) (hs : Std w) (r1 : Rd w a l c z) (h : 100 < l) :
    Calls Tryd.prog 3 #[.slice a l c, .int .i64 n] w fun e w' => e = .returned (.bool true) ∧ Below w.heap.size w w' := by
  have HS := Lib.hid hs
  have R1 := Lib.hid r1
  have hc := r1.cap
  clear hs r1
  go_enter Tryd.func3, Tryd.ntmps3
  go_wp2_with fail
  refine (known_any _ HS.out).mono ?_
  rintro e w1 ⟨rfl, h1⟩
  have B1 := Lib.hid h1
  clear h1
  go_wp2_with fail
  refine (known_any _ (HS.out.below B1.out)).mono ?_
  rintro e w2 ⟨rfl, h2⟩
  have B2 := Lib.hid (B1.out.trans (h2.mono B1.out.size))
  clear h2
  go_wp2_with fail
  go_ret
  exact ⟨rfl, B2.out⟩

set_option maxHeartbeats 1600000 in
set_option maxRecDepth 100000 in
theorem checks_big (a : Option Addr) (l c : Nat) (z : List Int) (n : Int) (w : World) (hs : Std w) (r1 : Rd w a l c z) (hl : l ≤ 100) (h : 100 < n) :
    Calls Tryd.prog 3 #[.slice a l c, .int .i64 n] w fun e w' => e = .returned (.bool true) ∧ Below w.heap.size w w' := by
  have HS := Lib.hid hs
  have R1 := Lib.hid r1
  have hc := r1.cap
  clear hs r1
  go_enter Tryd.func3, Tryd.ntmps3
  go_wp2_with fail
  refine (known_any _ HS.out).mono ?_
  rintro e w1 ⟨rfl, h1⟩
  have B1 := Lib.hid h1
  clear h1
  go_wp2_with fail
  refine (known_any _ (HS.out.below B1.out)).mono ?_
  rintro e w2 ⟨rfl, h2⟩
  have B2 := Lib.hid (B1.out.trans (h2.mono B1.out.size))
  clear h2
  go_wp2_with fail
  go_ret
  exact ⟨rfl, B2.out⟩

set_option maxHeartbeats 1600000 in
set_option maxRecDepth 100000 in
theorem checks_00 (a : Option Addr) (l c : Nat) (z : List Int) (n : Int) (w : World) (hs : Std w) (r1 : Rd w a l c z) (hl : l ≤ 100) (ok : okB z = false) (h : n < 0) (he : ∀ a c, allE n [⟨a, l, c, z⟩] = 4) :
    Calls Tryd.prog 3 #[.slice a l c, .int .i64 n] w fun e w' => e = .returned (.bool true) ∧ Below w.heap.size w w' := by
  have HS := Lib.hid hs
  have R1 := Lib.hid r1
  have hc := r1.cap
  clear hs r1
  have HR := Lib.hid (fun wx hr => checkR_any a l c z wx hr)
  have HK := Lib.hid (fun wx hr => checkN_any a l c z wx hr)
  rw [errR_no ok] at HR HK
  have HO := Lib.hid (fun wx hb => ca_one a l c z n 4 w wx R1.out hb he)
  have HN := Lib.hid (fun wx => checkAll_any none 0 0 [] n wx (RdM.nil wx))
  rw [show allE n [] = 0 from rfl] at HN
  clear ok he
  go_enter Tryd.func3, Tryd.ntmps3
  go_wp2_with fail
  refine (known_any _ HS.out).mono ?_
  rintro e w1 ⟨rfl, h1⟩
  have B1 := Lib.hid h1
  clear h1
  go_wp2_with fail
  refine (HR.out _ (R1.out.below B1.out)).mono ?_
  rintro e w2 ⟨rfl, rfl⟩
  go_wp2_with fail
  refine (HK.out _ (R1.out.below B1.out)).mono ?_
  rintro e w3 ⟨rfl, rfl⟩
  go_wp2_with fail
  refine (HO.out _ B1.out).mono ?_
  rintro e w4 ⟨rfl, h4⟩
  have B4 := Lib.hid (B1.out.trans (h4.mono B1.out.size))
  clear h4
  go_wp2_with fail
  refine (HN.out _).mono ?_
  rintro e w5 ⟨rfl, rfl⟩
  go_wp2_with fail
  go_ret
  exact ⟨rfl, B4.out⟩

set_option maxHeartbeats 1600000 in
set_option maxRecDepth 100000 in
theorem checks_01 (a : Option Addr) (l c : Nat) (z : List Int) (n : Int) (w : World) (hs : Std w) (r1 : Rd w a l c z) (hl : l ≤ 100) (ok : okB z = false) (h : 64 < n) (h2 : n ≤ 100) (he : ∀ a c, allE n [⟨a, l, c, z⟩] = 4) :
    Calls Tryd.prog 3 #[.slice a l c, .int .i64 n] w fun e w' => e = .returned (.bool true) ∧ Below w.heap.size w w' := by
  have HS := Lib.hid hs
  have R1 := Lib.hid r1
  have hc := r1.cap
  clear hs r1
  have HR := Lib.hid (fun wx hr => checkR_any a l c z wx hr)
  have HK := Lib.hid (fun wx hr => checkN_any a l c z wx hr)
  rw [errR_no ok] at HR HK
  have HO := Lib.hid (fun wx hb => ca_one a l c z n 4 w wx R1.out hb he)
  have HN := Lib.hid (fun wx => checkAll_any none 0 0 [] n wx (RdM.nil wx))
  rw [show allE n [] = 0 from rfl] at HN
  clear ok he
  go_enter Tryd.func3, Tryd.ntmps3
  go_wp2_with fail
  refine (known_any _ HS.out).mono ?_
  rintro e w1 ⟨rfl, h1⟩
  have B1 := Lib.hid h1
  clear h1
  go_wp2_with fail
  refine (HR.out _ (R1.out.below B1.out)).mono ?_
  rintro e w2 ⟨rfl, rfl⟩
  go_wp2_with fail
  refine (HK.out _ (R1.out.below B1.out)).mono ?_
  rintro e w3 ⟨rfl, rfl⟩
  go_wp2_with fail
  refine (HO.out _ B1.out).mono ?_
  rintro e w4 ⟨rfl, h4⟩
  have B4 := Lib.hid (B1.out.trans (h4.mono B1.out.size))
  clear h4
  go_wp2_with fail
  refine (HN.out _).mono ?_
  rintro e w5 ⟨rfl, rfl⟩
  go_wp2_with fail
  go_ret
  exact ⟨rfl, B4.out⟩

set_option maxHeartbeats 1600000 in
set_option maxRecDepth 100000 in
theorem checks_02 (a : Option Addr) (l c : Nat) (z : List Int) (n : Int) (w : World) (hs : Std w) (r1 : Rd w a l c z) (hl : l ≤ 100) (ok : okB z = false) (N : Nat) (hN : N ≤ 64) (h : n = N) (he : ∀ a c, allE n [⟨a, l, c, z⟩] = 4) :
    Calls Tryd.prog 3 #[.slice a l c, .int .i64 n] w fun e w' => e = .returned (.bool true) ∧ Below w.heap.size w w' := by
  have HS := Lib.hid hs
  have R1 := Lib.hid r1
  have hc := r1.cap
  clear hs r1
  have HR := Lib.hid (fun wx hr => checkR_any a l c z wx hr)
  have HK := Lib.hid (fun wx hr => checkN_any a l c z wx hr)
  rw [errR_no ok] at HR HK
  have HO := Lib.hid (fun wx hb => ca_one a l c z n 4 w wx R1.out hb he)
  have HN := Lib.hid (fun wx => checkAll_any none 0 0 [] n wx (RdM.nil wx))
  rw [show allE n [] = 0 from rfl] at HN
  obtain ⟨i0, hi, hz0, hz1, hz2⟩ := info_parts infoI
  subst h
  have HTW := Lib.hid (fun wx g hb h0 => ca_two a l c z N g 4 w wx R1.out hb h0 hN he)
  clear ok he
  go_enter Tryd.func3, Tryd.ntmps3
  go_wp2_with fail
  refine (known_any _ HS.out).mono ?_
  rintro e w1 ⟨rfl, h1⟩
  have B1 := Lib.hid h1
  clear h1
  go_wp2_with fail
  refine (HR.out _ (R1.out.below B1.out)).mono ?_
  rintro e w2 ⟨rfl, rfl⟩
  go_wp2_with fail
  refine (HK.out _ (R1.out.below B1.out)).mono ?_
  rintro e w3 ⟨rfl, rfl⟩
  go_wp2_with fail
  refine (HO.out _ B1.out).mono ?_
  rintro e w4 ⟨rfl, h4⟩
  have B4 := Lib.hid (B1.out.trans (h4.mono B1.out.size))
  clear h4
  go_wp2_with fail
  refine (HN.out _).mono ?_
  rintro e w5 ⟨rfl, rfl⟩
  go_wp2_with (at_make; refine wpList_make_full _ rfl _ _ 23 rfl _ 3 i0 (.int .i64 0) 1 Tryd.underlying23 hi hz0 hz1 .i64 .i64 _ _ N rfl rfl (by omega) (by omega) (by rw [hz2]; omega) (by unfold maxLen; omega) (Nat.le_refl _) ?_; intro w0 hown0 hgrow0)
  have hbel0 := Below.trans B4.out (((Below.refl _ _).grown hgrow0 (Nat.le_refl _) (by intro k hk; cases hk)).mono B4.out.size)
  have hrow0 := (RowI.made hown0).rd (rep_bd N)
  rw [List.length_replicate] at hrow0
  have HT := Lib.hid (HTW.out w0 _ hbel0 hrow0)
  have BZ := Lib.hid hbel0
  clear hown0 hgrow0 hrow0 hbel0
  go_wp2_with fail
  refine HT.out.mono ?_
  rintro e w9 ⟨rfl, h9⟩
  have B9 := Lib.hid (BZ.out.trans (h9.mono BZ.out.size))
  clear h9
  go_wp2_with fail
  go_ret
  exact ⟨rfl, B9.out⟩

set_option maxHeartbeats 1600000 in
set_option maxRecDepth 100000 in
theorem checks_10 (a : Option Addr) (l c : Nat) (z : List Int) (n : Int) (w : World) (hs : Std w) (r1 : Rd w a l c z) (hl : l ≤ 100) (ok : okB z = true) (hne : (l : Int) ≠ n) (h : n < 0) (he : ∀ a c, allE n [⟨a, l, c, z⟩] = 5) :
    Calls Tryd.prog 3 #[.slice a l c, .int .i64 n] w fun e w' => e = .returned (.bool true) ∧ Below w.heap.size w w' := by
  have HS := Lib.hid hs
  have R1 := Lib.hid r1
  have hc := r1.cap
  clear hs r1
  have HR := Lib.hid (fun wx hr => checkR_any a l c z wx hr)
  have HK := Lib.hid (fun wx hr => checkN_any a l c z wx hr)
  rw [errR_ok ok] at HR HK
  have HO := Lib.hid (fun wx hb => ca_one a l c z n 5 w wx R1.out hb he)
  have HN := Lib.hid (fun wx => checkAll_any none 0 0 [] n wx (RdM.nil wx))
  rw [show allE n [] = 0 from rfl] at HN
  have hnb : ((l : Int) != n) = true := by simpa using hne
  clear hne
  clear ok he
  go_enter Tryd.func3, Tryd.ntmps3
  go_wp2_with fail
  refine (known_any _ HS.out).mono ?_
  rintro e w1 ⟨rfl, h1⟩
  have B1 := Lib.hid h1
  clear h1
  go_wp2_with fail
  refine (HR.out _ (R1.out.below B1.out)).mono ?_
  rintro e w2 ⟨rfl, rfl⟩
  go_wp2_with fail
  refine (HK.out _ (R1.out.below B1.out)).mono ?_
  rintro e w3 ⟨rfl, rfl⟩
  go_wp2_with fail
  refine (HO.out _ B1.out).mono ?_
  rintro e w4 ⟨rfl, h4⟩
  have B4 := Lib.hid (B1.out.trans (h4.mono B1.out.size))
  clear h4
  go_wp2_with fail
  refine (HN.out _).mono ?_
  rintro e w5 ⟨rfl, rfl⟩
  go_wp2_with fail
  go_ret
  exact ⟨rfl, B4.out⟩

set_option maxHeartbeats 1600000 in
set_option maxRecDepth 100000 in
theorem checks_11 (a : Option Addr) (l c : Nat) (z : List Int) (n : Int) (w : World) (hs : Std w) (r1 : Rd w a l c z) (hl : l ≤ 100) (ok : okB z = true) (hne : (l : Int) ≠ n) (h : 64 < n) (h2 : n ≤ 100) (he : ∀ a c, allE n [⟨a, l, c, z⟩] = 5) :
    Calls Tryd.prog 3 #[.slice a l c, .int .i64 n] w fun e w' => e = .returned (.bool true) ∧ Below w.heap.size w w' := by
  have HS := Lib.hid hs
  have R1 := Lib.hid r1
  have hc := r1.cap
  clear hs r1
  have HR := Lib.hid (fun wx hr => checkR_any a l c z wx hr)
  have HK := Lib.hid (fun wx hr => checkN_any a l c z wx hr)
  rw [errR_ok ok] at HR HK
  have HO := Lib.hid (fun wx hb => ca_one a l c z n 5 w wx R1.out hb he)
  have HN := Lib.hid (fun wx => checkAll_any none 0 0 [] n wx (RdM.nil wx))
  rw [show allE n [] = 0 from rfl] at HN
  have hnb : ((l : Int) != n) = true := by simpa using hne
  clear hne
  clear ok he
  go_enter Tryd.func3, Tryd.ntmps3
  go_wp2_with fail
  refine (known_any _ HS.out).mono ?_
  rintro e w1 ⟨rfl, h1⟩
  have B1 := Lib.hid h1
  clear h1
  go_wp2_with fail
  refine (HR.out _ (R1.out.below B1.out)).mono ?_
  rintro e w2 ⟨rfl, rfl⟩
  go_wp2_with fail
  refine (HK.out _ (R1.out.below B1.out)).mono ?_
  rintro e w3 ⟨rfl, rfl⟩
  go_wp2_with fail
  refine (HO.out _ B1.out).mono ?_
  rintro e w4 ⟨rfl, h4⟩
  have B4 := Lib.hid (B1.out.trans (h4.mono B1.out.size))
  clear h4
  go_wp2_with fail
  refine (HN.out _).mono ?_
  rintro e w5 ⟨rfl, rfl⟩
  go_wp2_with fail
  go_ret
  exact ⟨rfl, B4.out⟩

set_option maxHeartbeats 1600000 in
set_option maxRecDepth 100000 in
theorem checks_12 (a : Option Addr) (l c : Nat) (z : List Int) (n : Int) (w : World) (hs : Std w) (r1 : Rd w a l c z) (hl : l ≤ 100) (ok : okB z = true) (hne : (l : Int) ≠ n) (N : Nat) (hN : N ≤ 64) (h : n = N) (he : ∀ a c, allE n [⟨a, l, c, z⟩] = 5) :
    Calls Tryd.prog 3 #[.slice a l c, .int .i64 n] w fun e w' => e = .returned (.bool true) ∧ Below w.heap.size w w' := by
  have HS := Lib.hid hs
  have R1 := Lib.hid r1
  have hc := r1.cap
  clear hs r1
  have HR := Lib.hid (fun wx hr => checkR_any a l c z wx hr)
  have HK := Lib.hid (fun wx hr => checkN_any a l c z wx hr)
  rw [errR_ok ok] at HR HK
  have HO := Lib.hid (fun wx hb => ca_one a l c z n 5 w wx R1.out hb he)
  have HN := Lib.hid (fun wx => checkAll_any none 0 0 [] n wx (RdM.nil wx))
  rw [show allE n [] = 0 from rfl] at HN
  have hnb : ((l : Int) != n) = true := by simpa using hne
  clear hne
  obtain ⟨i0, hi, hz0, hz1, hz2⟩ := info_parts infoI
  subst h
  have HTW := Lib.hid (fun wx g hb h0 => ca_two a l c z N g 5 w wx R1.out hb h0 hN he)
  clear ok he
  go_enter Tryd.func3, Tryd.ntmps3
  go_wp2_with fail
  refine (known_any _ HS.out).mono ?_
  rintro e w1 ⟨rfl, h1⟩
  have B1 := Lib.hid h1
  clear h1
  go_wp2_with fail
  refine (HR.out _ (R1.out.below B1.out)).mono ?_
  rintro e w2 ⟨rfl, rfl⟩
  go_wp2_with fail
  refine (HK.out _ (R1.out.below B1.out)).mono ?_
  rintro e w3 ⟨rfl, rfl⟩
  go_wp2_with fail
  refine (HO.out _ B1.out).mono ?_
  rintro e w4 ⟨rfl, h4⟩
  have B4 := Lib.hid (B1.out.trans (h4.mono B1.out.size))
  clear h4
  go_wp2_with fail
  refine (HN.out _).mono ?_
  rintro e w5 ⟨rfl, rfl⟩
  go_wp2_with (at_make; refine wpList_make_full _ rfl _ _ 23 rfl _ 3 i0 (.int .i64 0) 1 Tryd.underlying23 hi hz0 hz1 .i64 .i64 _ _ N rfl rfl (by omega) (by omega) (by rw [hz2]; omega) (by unfold maxLen; omega) (Nat.le_refl _) ?_; intro w0 hown0 hgrow0)
  have hbel0 := Below.trans B4.out (((Below.refl _ _).grown hgrow0 (Nat.le_refl _) (by intro k hk; cases hk)).mono B4.out.size)
  have hrow0 := (RowI.made hown0).rd (rep_bd N)
  rw [List.length_replicate] at hrow0
  have HT := Lib.hid (HTW.out w0 _ hbel0 hrow0)
  have BZ := Lib.hid hbel0
  clear hown0 hgrow0 hrow0 hbel0
  go_wp2_with fail
  refine HT.out.mono ?_
  rintro e w9 ⟨rfl, h9⟩
  have B9 := Lib.hid (BZ.out.trans (h9.mono BZ.out.size))
  clear h9
  go_wp2_with fail
  go_ret
  exact ⟨rfl, B9.out⟩

set_option maxHeartbeats 1600000 in
set_option maxRecDepth 100000 in
theorem checks_22 (a : Option Addr) (l c : Nat) (z : List Int) (n : Int) (w : World) (hs : Std w) (r1 : Rd w a l c z) (hl : l ≤ 100) (ok : okB z = true) (heq : (l : Int) = n) (N : Nat) (hN : N ≤ 64) (h : n = N) (he : ∀ a c, allE n [⟨a, l, c, z⟩] = 0) :
    Calls Tryd.prog 3 #[.slice a l c, .int .i64 n] w fun e w' => e = .returned (.bool true) ∧ Below w.heap.size w w' := by
  have HS := Lib.hid hs
  have R1 := Lib.hid r1
  have hc := r1.cap
  clear hs r1
  have HR := Lib.hid (fun wx hr => checkR_any a l c z wx hr)
  have HK := Lib.hid (fun wx hr => checkN_any a l c z wx hr)
  rw [errR_ok ok] at HR HK
  have HO := Lib.hid (fun wx hb => ca_one a l c z n 0 w wx R1.out hb he)
  have HN := Lib.hid (fun wx => checkAll_any none 0 0 [] n wx (RdM.nil wx))
  rw [show allE n [] = 0 from rfl] at HN
  obtain ⟨i0, hi, hz0, hz1, hz2⟩ := info_parts infoI
  subst h
  have HTW := Lib.hid (fun wx g hb h0 => ca_two a l c z N g 0 w wx R1.out hb h0 hN he)
  obtain rfl : N = l := by omega
  clear ok he heq
  go_enter Tryd.func3, Tryd.ntmps3
  go_wp2_with fail
  refine (known_any _ HS.out).mono ?_
  rintro e w1 ⟨rfl, h1⟩
  have B1 := Lib.hid h1
  clear h1
  go_wp2_with fail
  refine (HR.out _ (R1.out.below B1.out)).mono ?_
  rintro e w2 ⟨rfl, rfl⟩
  go_wp2_with fail
  refine (HK.out _ (R1.out.below B1.out)).mono ?_
  rintro e w3 ⟨rfl, rfl⟩
  go_wp2_with fail
  refine (HO.out _ B1.out).mono ?_
  rintro e w4 ⟨rfl, h4⟩
  have B4 := Lib.hid (B1.out.trans (h4.mono B1.out.size))
  clear h4
  go_wp2_with fail
  refine (HN.out _).mono ?_
  rintro e w5 ⟨rfl, rfl⟩
  go_wp2_with (at_make; refine wpList_make_full _ rfl _ _ 23 rfl _ 3 i0 (.int .i64 0) 1 Tryd.underlying23 hi hz0 hz1 .i64 .i64 _ _ N rfl rfl (by omega) (by omega) (by rw [hz2]; omega) (by unfold maxLen; omega) (Nat.le_refl _) ?_; intro w0 hown0 hgrow0)
  have hbel0 := Below.trans B4.out (((Below.refl _ _).grown hgrow0 (Nat.le_refl _) (by intro k hk; cases hk)).mono B4.out.size)
  have hrow0 := (RowI.made hown0).rd (rep_bd N)
  rw [List.length_replicate] at hrow0
  have HT := Lib.hid (HTW.out w0 _ hbel0 hrow0)
  have BZ := Lib.hid hbel0
  clear hown0 hgrow0 hrow0 hbel0
  go_wp2_with fail
  refine HT.out.mono ?_
  rintro e w9 ⟨rfl, h9⟩
  have B9 := Lib.hid (BZ.out.trans (h9.mono BZ.out.size))
  clear h9
  go_wp2_with fail
  go_ret
  exact ⟨rfl, B9.out⟩

theorem checks_law (a : Option Addr) (l c : Nat) (z : List Int) (n : Int) (w : World) (hs : Std w) (r1 : Rd w a l c z) (_wn : (Lit.int .i64 n).wf = true) :
    Calls Tryd.prog 3 #[.slice a l c, .int .i64 n] w fun e w' => e = .returned (.bool true) ∧ Below w.heap.size w w' := by
  by_cases hl : l ≤ 100
  · by_cases h100 : n ≤ 100
    · have hn : n < 0 ∨ 64 < n ∨ ∃ N : Nat, N ≤ 64 ∧ n = N := by
        by_cases h : n < 0
        · exact .inl h
        · by_cases h2 : 64 < n
          · exact .inr (.inl h2)
          · exact .inr (.inr ⟨n.toNat, by omega, by omega⟩)
      rcases want_ways z l n with ⟨ok, he⟩ | ⟨ok, hne, he⟩ | ⟨ok, heq, he⟩
      · rcases hn with h | h | ⟨N, hN, h⟩
        · exact checks_00 a l c z n w hs r1 hl ok h he
        · exact checks_01 a l c z n w hs r1 hl ok h h100 he
        · exact checks_02 a l c z n w hs r1 hl ok N hN h he
      · rcases hn with h | h | ⟨N, hN, h⟩
        · exact checks_10 a l c z n w hs r1 hl ok hne h he
        · exact checks_11 a l c z n w hs r1 hl ok hne h h100 he
        · exact checks_12 a l c z n w hs r1 hl ok hne N hN h he
      · have h64 := okB_len ok
        rw [r1.len] at h64
        exact checks_22 a l c z n w hs r1 hl ok heq l h64 heq.symm he
    · exact checks_big a l c z n w hs r1 hl (by omega)
  · exact checks_long a l c z n w hs r1 (by omega)
end Go.Proofs.YtgcddiakdmddjaaDoor
