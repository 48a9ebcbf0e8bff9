/-
  DivMod for any numbers.
-/
import Derived.Test.YtfhmdlpjeiockaaDoorDivide
import Derived.Test.YtfhmdlpjeiockaaDoorRefDiv
namespace Go.Proofs.YtfhmdlpjeiockaaDoor
open Go.RowKit

theorem OwnP.join {w : World} {B : Nat} {v : Value} {p : List Nat} {a : Nat} (h : OwnP w B v p) (hp : Pcs p a) (hn : p.length ≤ 200000) :
    Calls Tryd.prog 25 #[v] w fun e w' => e = .returned (.string (str a)) ∧ Below w.heap.size w w' := by
  rcases h with ⟨rfl, rfl⟩ | ⟨g, cap, rfl, hr⟩
  · have ha : a = 0 := hp.val.symm
    have hs : str a = ⟨#[48]⟩ := by rw [ha]; exact (str_eq 0 (by decide) (by decide)).symm
    rw [hs]
    clear hs ha hp hn
    go_enter Tryd.func25, Tryd.ntmps25
    go_wp2_with fail
    go_ret
    exact ⟨rfl, Below.refl _ _⟩
  · exact join_any B g cap p a w hr hp hn

set_option maxHeartbeats 1600000 in
set_option maxRecDepth 100000 in
theorem dm_small (a b : Nat) (w : World) (hs : Std w) (ha : a < 18446744073709551616) (hb : b < 18446744073709551616) (hb0 : 0 < b) :
    Calls Tryd.prog 8 #[.string (str a), .string (str b)] w fun e w' => e = .returned (.tuple #[.string (str (a / b)), .string (str (a % b)), .int .i64 0]) ∧ Below w.heap.size w w' := by
  have hq0 : a / b ≤ a := Nat.div_le_self _ _
  have hm0 : a % b ≤ a := Nat.mod_le _ _
  have HB := Lib.hid (both_yes a b ha hb w)
  obtain ⟨q, hq⟩ : ∃ q, q = a / b := ⟨_, rfl⟩
  obtain ⟨r, hr⟩ : ∃ r, r = a % b := ⟨_, rfl⟩
  rw [← hq] at hq0 ⊢
  rw [← hr] at hm0 ⊢
  have HO : Hid (∀ (z : Nat) (w1 wx : World), z ≤ a → Std w1 → Below w1.heap.size w1 wx → Calls Tryd.prog 22 #[.int .u64 z] wx fun e w' => e = .returned (.string (str z)) ∧ Below w1.heap.size w1 w') :=
    Lib.hid (fun z w1 wx hz h1 hb => (of_any z (by omega) wx (h1.below hb)).mono fun e w' h => ⟨h.1, hb.trans (h.2.mono hb.size)⟩)
  have hqi : (a : Int) / (b : Int) = (q : Int) := by rw [hq]; simp
  have hri : (a : Int) % (b : Int) = (r : Int) := by rw [hr]; simp
  have hwq : IntKind.u64.wrap (q : Int) = (q : Int) := by rw [IntKind.wrap_u64]; omega
  have htm : (a : Int).tmod (b : Int) = (r : Int) := by rw [Int.tmod_eq_emod_of_nonneg (by omega)]; exact hri
  have htd : (a : Int).tdiv (b : Int) = (q : Int) := by rw [Int.tdiv_eq_ediv_of_nonneg (by omega)]; exact hqi
  have hnz : ((b : Int) == 0) = false := by rw [beq_eq_false_iff_ne]; omega
  have hnz' : ((b : Int) != 0) = true := by simp; omega
  clear hq hr ha hb
  go_enter Tryd.func8, Tryd.ntmps8
  go_wp2_with fail
  refine HB.out.mono ?_
  rintro e w1 ⟨rfl, h1⟩
  have HS1 := Lib.hid (hs.below h1)
  have H1 := Lib.hid h1
  clear h1 hs
  go_wp2_with fail
  have hb0 : Below w1.heap.size w1 w1.drew := Below.drew (Below.refl _ _)
  go_region_with (go_at_call 22; refine (HO.out _ w1 _ ?hz HS1.out ?hb).mono ?_; (case hb => assumption); (case hz => first | exact hq0 | exact hm0); rintro e w' ⟨rfl, h1⟩)
  all_goals
    go_wp2_with fail
    go_ret3
    exact ⟨rfl, H1.out.trans (Below.mono (by assumption) H1.out.size)⟩

set_option maxHeartbeats 1600000 in
set_option maxRecDepth 100000 in
theorem dm_zero (a b : Nat) (w : World) (hs : Std w) (ha : (str a).size ≤ 450000) (hb0 : b = 0) :
    Calls Tryd.prog 8 #[.string (str a), .string (str b)] w fun e w' => e = .returned (.tuple #[.string ⟨#[]⟩, .string ⟨#[]⟩, .int .i64 17]) ∧ Below w.heap.size w w' := by
  have hbs : (str b).size ≤ 20 := nd20 (by omega)
  have HCUT := Lib.hid (fun wx => cutBoth_any a b wx (by omega) (by omega))
  have HBN : ∃ (x y : Nat) (s : Bool), (s = true → y = 0) ∧ Hid (Calls Tryd.prog 21 #[.string (str a), .string (str b)] w fun e w' => e = .returned (.tuple #[.int .u64 x, .int .u64 y, .bool s]) ∧ Below w.heap.size w w') ∨ Hid (Calls Tryd.prog 21 #[.string (str a), .string (str b)] w fun e w' => ∃ x y : Nat, e = .returned (.tuple #[.int .u64 x, .int .u64 y, .bool false]) ∧ Below w.heap.size w w') := by
    by_cases h : a < 18446744073709551616 ∧ b < 18446744073709551616
    · exact ⟨a, b, true, .inl ⟨fun _ => hb0, Lib.hid (both_yes a b h.1 h.2 w)⟩⟩
    · exact ⟨0, 0, true, .inr (Lib.hid (both_no a b h w hs))⟩
  have HB0 := Lib.hid hb0
  clear hb0
  obtain ⟨x, y, s, ⟨hy, HB⟩ | HB⟩ := HBN
  · cases s with
    | false =>
      clear hy
      go_enter Tryd.func8, Tryd.ntmps8
      go_wp2_with fail
      refine HB.out.mono ?_
      rintro e w1 ⟨rfl, h1⟩
      go_wp2_with fail
      refine (HCUT.out _).mono ?_
      rintro e w3 ⟨g, cap, p, g', cap', q, rfl, hp, hq, hrp, hrq, hgg, hb3⟩
      have hq0 : q = [] := pv_zero hq.top (by rw [hq.val]; exact HB0.out)
      subst hq0
      clear hp hq hrp hrq hgg
      go_wp2_with fail
      go_ret3
      exact ⟨rfl, h1.trans (hb3.mono h1.size)⟩
    | true =>
      obtain rfl : y = 0 := hy rfl
      clear hy
      go_enter Tryd.func8, Tryd.ntmps8
      go_wp2_with fail
      refine HB.out.mono ?_
      rintro e w1 ⟨rfl, h1⟩
      go_wp2_with fail
      refine (HCUT.out _).mono ?_
      rintro e w3 ⟨g, cap, p, g', cap', q, rfl, hp, hq, hrp, hrq, hgg, hb3⟩
      have hq0 : q = [] := pv_zero hq.top (by rw [hq.val]; exact HB0.out)
      subst hq0
      clear hp hq hrp hrq hgg
      go_wp2_with fail
      go_ret3
      exact ⟨rfl, h1.trans (hb3.mono h1.size)⟩
  · go_enter Tryd.func8, Tryd.ntmps8
    go_wp2_with fail
    refine HB.out.mono ?_
    rintro e w1 ⟨x, y, rfl, h1⟩
    go_wp2_with fail
    refine (HCUT.out _).mono ?_
    rintro e w3 ⟨g, cap, p, g', cap', q, rfl, hp, hq, hrp, hrq, hgg, hb3⟩
    have hq0 : q = [] := pv_zero hq.top (by rw [hq.val]; exact HB0.out)
    subst hq0
    clear hp hq hrp hrq hgg
    go_wp2_with fail
    go_ret3
    exact ⟨rfl, h1.trans (hb3.mono h1.size)⟩

set_option maxHeartbeats 1600000 in
theorem dm_big (a b : Nat) (w : World) (hs : Std w) (ha : (str a).size ≤ 450000) (hb : (str b).size ≤ 450000) (h64 : ¬ (a < 18446744073709551616 ∧ b < 18446744073709551616)) (hb0 : 0 < b) :
    Calls Tryd.prog 8 #[.string (str a), .string (str b)] w fun e w' => e = .returned (.tuple #[.string (str (a / b)), .string (str (a % b)), .int .i64 0]) ∧ Below w.heap.size w w' := by
  have HCUT := Lib.hid (fun wx => cutBoth_any a b wx (by omega) (by omega))
  have HBN := Lib.hid (both_no a b h64 w hs)
  obtain ⟨dq, dr, hdq⟩ : ∃ d r : Nat, d = a / b ∧ r = a % b := ⟨_, _, rfl, rfl⟩
  have hla : (str dq).size ≤ 450000 ∧ (str dr).size ≤ 450000 := by
    rw [hdq.1, hdq.2]
    exact ⟨Nat.le_trans (size_mono (Nat.div_le_self a b)) ha, Nat.le_trans (size_mono (Nat.mod_le a b)) ha⟩
  rw [← hdq.1, ← hdq.2]
  have HDQ := Lib.hid hdq
  have HLA := Lib.hid hla
  clear h64 hdq hla
  go_enter Tryd.func8, Tryd.ntmps8
  go_wp2_with fail
  refine HBN.out.mono ?_
  rintro e w1 ⟨x, y, rfl, hb1'⟩
  go_wp2_with fail
  refine (HCUT.out _).mono ?_
  rintro e w3 ⟨g, cap, p, g', cap', q, rfl, hp, hq, hrp, hrq, hgg, hb3⟩
  have hlp := hp.len_le (n := 50000) (by omega)
  have hlq0 := pcs_pos hq hb0
  have hqn : ((q.length : Int) == 0) = false := by rw [beq_eq_false_iff_ne]; omega
  have hdv := divide_any _ g cap g' cap' p q a b w3 hrp hrq (by omega) hp hq (by omega) hb0 hb3.size
  have hsz := hrp.len_cap
  have hsz' := hrq.len_cap
  unfold maxLen at hsz hsz'
  have HDV := Lib.hid hdv
  clear hp hq hrp hrq hgg hdv
  go_wp2_with fail
  refine HDV.out.mono ?_
  rintro e w4 ⟨v1, v2, q1, r1, rfl, hq1, hr1, ho1, ho2, hb4⟩
  rw [← HDQ.out.1] at hq1
  rw [← HDQ.out.2] at hr1
  have hl1 := hq1.len_le (n := 50000) HLA.out.1
  have hl2 := hr1.len_le (n := 50000) HLA.out.2
  have HJ1 := Lib.hid (ho1.join hq1 (by omega))
  have HJ2 := Lib.hid (fun wx (hw : Below w4.heap.size w4 wx) => (ho2.below hw).join hr1 (by omega))
  clear hq1 hr1 ho1 ho2 hl1 hl2
  clear HDV HCUT HBN
  go_wp2_with fail
  refine HJ1.out.mono ?_
  rintro e w5 ⟨rfl, hb5⟩
  go_wp2_with fail
  refine (HJ2.out _ hb5).mono ?_
  rintro e w6 ⟨rfl, hb6⟩
  go_wp2_with fail
  go_ret3
  have s1 := hb1'.size
  have s3 := hb3.size
  have s4 := hb4.size
  have s5 := hb5.size
  exact ⟨rfl, (((hb1'.trans ((hb3.trans hb4).mono s1))).trans (hb5.mono (by omega))).trans (hb6.mono (by omega))⟩

theorem dm_any (a b : Nat) (w : World) (hs : Std w) (ha : (str a).size ≤ 450000) (hb : (str b).size ≤ 450000) (hb0 : 0 < b) :
    Calls Tryd.prog 8 #[.string (str a), .string (str b)] w fun e w' => e = .returned (.tuple #[.string (str (a / b)), .string (str (a % b)), .int .i64 0]) ∧ Below w.heap.size w w' := by
  by_cases h : a < 18446744073709551616 ∧ b < 18446744073709551616
  · exact dm_small a b w hs h.1 h.2 hb0
  · exact dm_big a b w hs ha hb h hb0
end Go.Proofs.YtfhmdlpjeiockaaDoor
