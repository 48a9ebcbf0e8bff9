/-
  Contracts of Add and Sub.
-/
import Derived.Test.YtaghhkninggcnaaDoorSub
import Derived.Test.YtaghhkninggcnaaDoorComp
namespace Go.Proofs.YtaghhkninggcnaaDoor
open Go.RowKit

theorem Pcs.add_len {p q r : List Nat} {a b c n : Nat} (hp : Pcs p a) (hq : Pcs q b) (hr : Pcs r c) (hc : c = a + b) (h1 : p.length ≤ n) (h2 : q.length ≤ n) : r.length ≤ n + 1 := by
  refine hr.len_of_lt ?_
  have k1 := pv_lt p hp.lt
  have k2 := pv_lt q hq.lt
  rw [hp.val] at k1
  rw [hq.val] at k2
  have k3 : (1000000000 : Nat) ^ p.length ≤ 1000000000 ^ n := Nat.pow_le_pow_right (by decide) h1
  have k4 : (1000000000 : Nat) ^ q.length ≤ 1000000000 ^ n := Nat.pow_le_pow_right (by decide) h2
  rw [hc, Nat.pow_succ]; omega

set_option maxHeartbeats 1600000 in
set_option maxRecDepth 100000 in
theorem addN_any (a b : Nat) (w : World) (hs : Std w) (ha : (str a).size ≤ 450000) (hb : (str b).size ≤ 450000) :
    Calls Tryd.prog 29 #[.string (str a), .string (str b)] w fun e w' => e = .returned (.string (str (a + b))) ∧ Below w.heap.size w w' := by
  have HCUT := Lib.hid (fun wx => cutBoth_any a b wx (by omega) (by omega))
  obtain ⟨s, hsum⟩ : ∃ s : Nat, s = a + b := ⟨_, rfl⟩
  have HSUM := Lib.hid hsum
  rw [← hsum]
  have HLONG := Lib.hid (fun (w3 : World) (g cap : Nat) (p : List Nat) (g' cap' : Nat) (q : List Nat) (B : Nat) (hp : Pcs p a) (hq : Pcs q b) (hrp : Row w3 B g cap p) (hrq : Row w3 B g' cap' q) =>
    add_any B g cap g' cap' p q w3 hrp hrq hp.lt hq.lt (by have := hp.len_le (n := 50000) (by omega); omega) (by have := hq.len_le (n := 50000) (by omega); omega))
  by_cases h64 : a < 18446744073709551616 ∧ b < 18446744073709551616
  · have HBY := Lib.hid (both_yes a b h64.1 h64.2 w)
    have ha0 := fun wx => Tryd.bits_Add64 a b 0 (by omega) wx
    by_cases hlt : s < 18446744073709551616
    · have hadd : ∀ wx, (callFunc 54 #[.int .u64 (a : Int), .int .u64 (b : Int), .int .u64 0]).run Tryd.prog wx = .ok (.value (.tuple #[.int .u64 (s : Int), .int .u64 0])) wx := fun wx => by
        have h := ha0 wx
        rw [Nat.add_zero, ← hsum, Nat.div_eq_of_lt hlt, Nat.mod_eq_of_lt hlt] at h
        exact h
      have HOF := Lib.hid (fun wx hx => of_any s hlt wx hx)
      clear ha0 hlt h64 hsum
      go_enter Tryd.func29, Tryd.ntmps29
      go_wp2_with fail
      refine HBY.out.mono ?_
      rintro e w1 ⟨rfl, hb1⟩
      go_wp2_with fail
      refine (HOF.out _ (hs.below hb1)).mono ?_
      rintro e w3 ⟨rfl, hb3⟩
      go_wp2_with fail
      go_ret
      exact ⟨rfl, hb1.trans (hb3.mono hb1.size)⟩
    · have hdv : s / 18446744073709551616 = 1 := by omega
      obtain ⟨l, hl⟩ : ∃ l : Nat, l = s % 18446744073709551616 := ⟨_, rfl⟩
      have hadd : ∀ wx, (callFunc 54 #[.int .u64 (a : Int), .int .u64 (b : Int), .int .u64 0]).run Tryd.prog wx = .ok (.value (.tuple #[.int .u64 (l : Int), .int .u64 1])) wx := fun wx => by
        have h := ha0 wx
        rw [Nat.add_zero, ← hsum, hdv, ← hl] at h
        exact h
      clear ha0 hlt h64 hsum hdv hl
      go_enter Tryd.func29, Tryd.ntmps29
      go_wp2_with fail
      refine HBY.out.mono ?_
      rintro e w1 ⟨rfl, hb1⟩
      go_wp2_with fail
      refine (HCUT.out _).mono ?_
      rintro e w3 ⟨g, cap, p, g', cap', q, rfl, hp, hq, hrp, hrq, hgg, hb3⟩
      have hlp := hp.len_le (n := 50000) (by omega)
      have hlq := hq.len_le (n := 50000) (by omega)
      have HMU := Lib.hid (HLONG.out w3 g cap p g' cap' q _ hp hq hrp hrq)
      rw [hp.val, hq.val, ← HSUM.out] at HMU
      have HP := Lib.hid hp
      have HQ := Lib.hid hq
      clear hp hq hrp hrq hgg
      go_wp2_with fail
      refine HMU.out.mono ?_
      rintro e w4 ⟨g2, cap2, r, rfl, hr, hrr, hb4⟩
      have hlr := HP.out.add_len HQ.out hr HSUM.out hlp hlq
      have HJ := Lib.hid (join_any _ g2 cap2 r s w4 hrr hr (by omega))
      clear hr hrr
      go_wp2_with fail
      refine HJ.out.mono ?_
      rintro e w5 ⟨rfl, hb5⟩
      go_wp2_with fail
      go_ret
      exact ⟨rfl, ((hb1.trans (hb3.mono hb1.size)).trans (hb4.mono (Nat.le_trans hb1.size hb3.size))).trans (hb5.mono (Nat.le_trans (Nat.le_trans hb1.size hb3.size) hb4.size))⟩
  · have HBN := Lib.hid (both_no a b h64 w hs)
    clear h64 hsum
    go_enter Tryd.func29, Tryd.ntmps29
    go_wp2_with fail
    refine HBN.out.mono ?_
    rintro e w1 ⟨x, y, rfl, hb1⟩
    go_wp2_with fail
    refine (HCUT.out _).mono ?_
    rintro e w3 ⟨g, cap, p, g', cap', q, rfl, hp, hq, hrp, hrq, hgg, hb3⟩
    have hlp := hp.len_le (n := 50000) (by omega)
    have hlq := hq.len_le (n := 50000) (by omega)
    have HMU := Lib.hid (HLONG.out w3 g cap p g' cap' q _ hp hq hrp hrq)
    rw [hp.val, hq.val, ← HSUM.out] at HMU
    have HP := Lib.hid hp
    have HQ := Lib.hid hq
    clear hp hq hrp hrq hgg
    go_wp2_with fail
    refine HMU.out.mono ?_
    rintro e w4 ⟨g2, cap2, r, rfl, hr, hrr, hb4⟩
    have hlr := HP.out.add_len HQ.out hr HSUM.out hlp hlq
    have HJ := Lib.hid (join_any _ g2 cap2 r s w4 hrr hr (by omega))
    clear hr hrr
    go_wp2_with fail
    refine HJ.out.mono ?_
    rintro e w5 ⟨rfl, hb5⟩
    go_wp2_with fail
    go_ret
    exact ⟨rfl, ((hb1.trans (hb3.mono hb1.size)).trans (hb4.mono (Nat.le_trans hb1.size hb3.size))).trans (hb5.mono (Nat.le_trans (Nat.le_trans hb1.size hb3.size) hb4.size))⟩

/-- the ways of Sub behind the quick one -/
theorem sub_size {a b : Nat} (ha : (str a).size ≤ 450000) (h : b ≤ a) : (str b).size ≤ 450000 := Nat.le_trans (size_mono h) ha

set_option maxHeartbeats 1600000 in
set_option maxRecDepth 100000 in
theorem subN_yes (a b : Nat) (w : World) (hs : Std w) (ha : (str a).size ≤ 450000) (hle : b ≤ a) :
    Calls Tryd.prog 28 #[.string (str a), .string (str b)] w fun e w' => e = .returned (.tuple #[.string (str (a - b)), .int .i64 0]) ∧ Below w.heap.size w w' := by
  have hb := sub_size ha hle
  have HCUT := Lib.hid (fun wx => cutBoth_any a b wx (by omega) (by omega))
  obtain ⟨s, hsum⟩ : ∃ s : Nat, s = a - b := ⟨_, rfl⟩
  have HSUM := Lib.hid hsum
  rw [← hsum]
  by_cases h64 : a < 18446744073709551616 ∧ b < 18446744073709551616
  · have HBY := Lib.hid (both_yes a b h64.1 h64.2 w)
    have HOF := Lib.hid (fun wx hx => of_any s (by omega) wx hx)
    have hsub : (a : Int) - (b : Int) = (s : Int) := by omega
    have hge : (b : Int) ≤ (a : Int) := by omega
    have hwr : IntKind.u64.wrap (s : Int) = (s : Int) := by rw [IntKind.wrap_u64]; omega
    clear h64 hsum hle
    go_enter Tryd.func28, Tryd.ntmps28
    go_wp2_with fail
    refine HBY.out.mono ?_
    rintro e w1 ⟨rfl, hb1⟩
    go_wp2_with fail
    refine (HOF.out _ (hs.below hb1)).mono ?_
    rintro e w3 ⟨rfl, hb3⟩
    go_wp2_with fail
    go_ret2
    exact ⟨rfl, hb1.trans (hb3.mono hb1.size)⟩
  · have HBN := Lib.hid (both_no a b h64 w hs)
    have hc : ¬ cmpN a b < 0 := by
      unfold cmpN; rw [if_neg (by omega)]; split <;> decide
    have HCM := Lib.hid (fun wx => compare_any a b wx)
    obtain ⟨c, hcc⟩ : ∃ c, c = cmpN a b := ⟨_, rfl⟩
    rw [← hcc] at hc HCM
    have HLE := Lib.hid hle
    clear h64 hsum hcc hle
    go_enter Tryd.func28, Tryd.ntmps28
    go_wp2_with fail
    refine HBN.out.mono ?_
    rintro e w1 ⟨x, y, rfl, hb1⟩
    go_wp2_with fail
    refine (HCUT.out _).mono ?_
    rintro e w3 ⟨g, cap, p, g', cap', q, rfl, hp, hq, hrp, hrq, hgg, hb3⟩
    have hlp := hp.len_le (n := 50000) (by omega)
    have hlq := hp.len_mono hq HLE.out
    have HMU := Lib.hid (subtract_any _ g cap g' cap' p q w3 hrp hrq hp.lt hq.lt (by omega) hlq (by rw [hp.val, hq.val]; exact HLE.out))
    rw [hp.val, hq.val, ← HSUM.out] at HMU
    have HP := Lib.hid hp
    clear hp hq hrp hrq hgg
    go_wp2_with fail
    refine (HCM.out _).mono ?_
    rintro e w4 ⟨rfl, rfl⟩
    go_wp2_with fail
    refine HMU.out.mono ?_
    rintro e w4 ⟨g2, cap2, r, rfl, hr, hrr, hb4⟩
    have hlr := HP.out.len_mono hr (by rw [HSUM.out]; omega)
    have HJ := Lib.hid (join_any _ g2 cap2 r s w4 hrr hr (by omega))
    clear hr hrr
    go_wp2_with fail
    refine HJ.out.mono ?_
    rintro e w5 ⟨rfl, hb5⟩
    go_wp2_with fail
    go_ret2
    exact ⟨rfl, ((hb1.trans (hb3.mono hb1.size)).trans (hb4.mono (Nat.le_trans hb1.size hb3.size))).trans (hb5.mono (Nat.le_trans (Nat.le_trans hb1.size hb3.size) hb4.size))⟩

set_option maxHeartbeats 1600000 in
set_option maxRecDepth 100000 in
theorem subN_no (a b : Nat) (w : World) (hs : Std w) (hb : (str b).size ≤ 450000) (hlt : a < b) :
    Calls Tryd.prog 28 #[.string (str a), .string (str b)] w fun e w' => e = .returned (.tuple #[.string ⟨#[]⟩, .int .i64 3]) ∧ Below w.heap.size w w' := by
  have ha := sub_size hb (Nat.le_of_lt hlt)
  have HCUT := Lib.hid (fun wx => cutBoth_any a b wx (by omega) (by omega))
  have HCM := Lib.hid (fun wx => compare_any a b wx)
  rw [cmp_lt hlt] at HCM
  by_cases h64 : a < 18446744073709551616 ∧ b < 18446744073709551616
  · have HBY := Lib.hid (both_yes a b h64.1 h64.2 w)
    have hge : ¬ (b : Int) ≤ (a : Int) := by omega
    clear h64 hlt
    go_enter Tryd.func28, Tryd.ntmps28
    go_wp2_with fail
    refine HBY.out.mono ?_
    rintro e w1 ⟨rfl, hb1⟩
    go_wp2_with fail
    refine (HCUT.out _).mono ?_
    rintro e w3 ⟨g, cap, p, g', cap', q, rfl, hp, hq, hrp, hrq, hgg, hb3⟩
    clear hp hq hrp hrq hgg
    go_wp2_with fail
    refine (HCM.out _).mono ?_
    rintro e w4 ⟨rfl, rfl⟩
    go_wp2_with fail
    go_ret2
    exact ⟨rfl, hb1.trans (hb3.mono hb1.size)⟩
  · have HBN := Lib.hid (both_no a b h64 w hs)
    clear h64 hlt
    go_enter Tryd.func28, Tryd.ntmps28
    go_wp2_with fail
    refine HBN.out.mono ?_
    rintro e w1 ⟨x, y, rfl, hb1⟩
    go_wp2_with fail
    refine (HCUT.out _).mono ?_
    rintro e w3 ⟨g, cap, p, g', cap', q, rfl, hp, hq, hrp, hrq, hgg, hb3⟩
    clear hp hq hrp hrq hgg
    go_wp2_with fail
    refine (HCM.out _).mono ?_
    rintro e w4 ⟨rfl, rfl⟩
    go_wp2_with fail
    go_ret2
    exact ⟨rfl, hb1.trans (hb3.mono hb1.size)⟩
end Go.Proofs.YtaghhkninggcnaaDoor
