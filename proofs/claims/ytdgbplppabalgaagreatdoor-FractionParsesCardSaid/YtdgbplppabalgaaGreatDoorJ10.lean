/-
  Texts of one seat, joined: ExpsLaw RefLimbs RefMul PowersLaw RefDiv DivMod RefBits Gcds Gcd ZGcd.
-/
import Derived.Test.YtdgbplppabalgaaGreatDoorJ9
import Derived.Test.YtdgbplppabalgaaGreatDoorJ6
import Derived.OpenShut
import Derived.Test.YtdgbplppabalgaaGreatDoorJ2
import Derived.IntWalk
import Derived.Deep.QuietTactic
import Derived.BigQuiet
import Derived.Deep.RegionWith
import Derived.Deep.LoopGhost
namespace Go.Proofs.YtdgbplppabalgaaGreatDoor
open Go.RowKit



theorem size_pow_le {a s : Nat} (ha : (str a).size ≤ s) (n : Nat) : (str (a ^ n)).size ≤ s * n + 1 := by
  refine str_big ?_ (by omega)
  have h1 := lt_of_size ha
  have h2 : a ^ n ≤ (10 ^ s) ^ n := Nat.pow_le_pow_left (Nat.le_of_lt h1) n
  rw [← Nat.pow_mul] at h2
  rw [Nat.pow_succ]
  have : 0 < 10 ^ (s * n) := Nat.pow_pos (by decide)
  omega
theorem bits_bound' {z k s : Nat} (h : BitsOf z k) (hs : (str z).size ≤ s) : k ≤ 4 * s + 1 := by
  rcases h.2 with h0 | h0
  · omega
  · have h1 := lt_of_size hs
    have h2 : (10 : Nat) ^ s ≤ (2 ^ 4) ^ s := Nat.pow_le_pow_left (by decide) _
    rw [← Nat.pow_mul] at h2
    have h3 : 2 ^ (k - 1) < 2 ^ (4 * s) := by omega
    have := (Nat.pow_lt_pow_iff_right (a := 2) (by decide)).1 h3
    omega
theorem bits_bound {z k : Nat} (h : BitsOf z k) (hs : (str z).size ≤ 301) : k ≤ 1205 := bits_bound' h hs
theorem str0 : str 0 = ⟨#[48]⟩ := (str_eq 0 (by decide) (by decide)).symm
theorem str2 : str 2 = ⟨#[50]⟩ := (str_eq 2 (by decide) (by decide)).symm

end Go.Proofs.YtdgbplppabalgaaGreatDoor

namespace Go.Proofs.YtdgbplppabalgaaGreatDoor
open Go.RowKit

theorem sub_step_val (s : ByteArray) (i a : Nat) (h : i < s.size) (ha : a ≤ i) : val ((s.data.toList.take (i + 1)).drop a) = val ((s.data.toList.take i).drop a) * 10 + ((s[i]'h).toNat - 48) := by
  rw [List.take_succ_eq_append_getElem (by rw [len_list]; exact h), List.drop_append_of_le_length (by rw [List.length_take, len_list]; omega), val_snoc, at_list s i h]; omega
theorem sub_lt {s : ByteArray} (hd : s.data.toList.all isD = true) (i a : Nat) (hi : i ≤ s.size) : val ((s.data.toList.take i).drop a) < 10 ^ (i - a) := by
  have h1 := val_lt _ (all_sub hd a i)
  rw [List.length_drop, List.length_take, len_list, Nat.min_eq_left hi] at h1; exact h1

end Go.Proofs.YtdgbplppabalgaaGreatDoor

namespace Go.Proofs.YtdgbplppabalgaaGreatDoor
open Go.RowKit

theorem Row.drewN {w : World} {B g cap : Nat} {l : List Nat} (h : Row w B g cap l) (n : Nat) : Row (w.drewN n) B g cap l := h
theorem j0_set (m : Nat) (S : List UInt8) (c : UInt8) : (48 :: dig0 (m + 1) S).set (m + 1) c = 48 :: dig0 m (c :: S) := by
  rw [List.set_cons_succ, dig0_set]

theorem joinR_c0 {w : World} {B g N : Nat} (h : RowB w B g N N (dig0 N [])) (hN : 0 < N) : ∃ c0 : Int, w.cell? ⟨g, 0, none⟩ = some (.int .u8 c0) :=
  ⟨_, h.cell 0 (by rw [dig0_len]; simpa using hN)⟩

end Go.Proofs.YtdgbplppabalgaaGreatDoor

namespace Go.Proofs.YtdgbplppabalgaaGreatDoor
open Go.RowKit

theorem str1 : str 1 = ⟨#[49]⟩ := (str_eq 1 (by decide) (by decide)).symm
theorem is0 (a : Nat) : ((str a).toList == [48]) = decide (a = 0) := by
  have := str_beq a 0
  rw [str0, show (⟨#[48]⟩ : ByteArray).toList = [48] by rw [tl]] at this; exact this
theorem is1 (a : Nat) : ((str a).toList == [49]) = decide (a = 1) := by
  have := str_beq a 1
  rw [str1, show (⟨#[49]⟩ : ByteArray).toList = [49] by rw [tl]] at this; exact this
theorem size_small {a : Nat} (h : a ≤ 1) : (str a).size ≤ 1 := str_big (by omega) (by decide)
theorem pow_small {a n : Nat} (h : a ≤ 1) : a ^ n ≤ 1 := by
  rcases (show a = 0 ∨ a = 1 by omega) with rfl | rfl
  · cases n <;> simp
  · simp
theorem size_lower {v n : Nat} (h : 10 ^ n ≤ v) : n < (str v).size := by
  apply Nat.lt_of_not_le; intro hle
  have h1 := lt_of_size hle
  omega
theorem pow_big1 {a n q : Nat} (hq : (str a).size = q + 1) (ha : 0 < a) : q * n < (str (a ^ n)).size := by
  refine size_lower ?_
  have h1 := pow_nDigits_le ha
  rw [← str_size, hq] at h1
  rw [Nat.pow_mul]
  exact Nat.pow_le_pow_left h1 n
theorem pow_big2 {a n : Nat} (ha : 2 ≤ a) : n / 4 < (str (a ^ n)).size := by
  refine size_lower ?_
  have h1 : (10 : Nat) ^ (n / 4) ≤ (2 ^ 4) ^ (n / 4) := Nat.pow_le_pow_left (by decide) _
  rw [← Nat.pow_mul] at h1
  have h2 : (2 : Nat) ^ (4 * (n / 4)) ≤ 2 ^ n := Nat.pow_le_pow_right (by decide) (by omega)
  have h3 : 2 ^ n ≤ a ^ n := Nat.pow_le_pow_left ha n
  omega



theorem max_bound {q N S : Nat} (h1 : q * N < S) (h2 : N / 4 < S) (hq : q ≤ 19) (hS : S ≤ 20000) : max (wrap64 ((q : Int) * min (N : Int) 30000)) (min (N : Int) 100000 / 4) ≤ 20000 := by
  obtain ⟨m, hm, hm2, hm3⟩ : ∃ m : Nat, min (N : Int) 30000 = (m : Int) ∧ m ≤ N ∧ m ≤ 30000 := ⟨min N 30000, by omega, by omega, by omega⟩
  have h3 : q * m ≤ q * N := Nat.mul_le_mul_left q hm2
  have h4 : q * m ≤ 19 * 30000 := Nat.mul_le_mul hq hm3
  rw [hm, show ((q : Int) * (m : Int)) = ((q * m : Nat) : Int) by push_cast; rfl, show wrap64 ((q * m : Nat) : Int) = ((q * m : Nat) : Int) by unfold wrap64; omega]
  omega

end Go.Proofs.YtdgbplppabalgaaGreatDoor

namespace Go.Proofs.YtdgbplppabalgaaGreatDoor
open Go.RowKit

theorem dd_step (r d : Nat) (hr : 0 < r) (hd : d < 10) : Lib.decDigits (10 * r + d) = Lib.decDigits r ++ [UInt8.ofNat (48 + d)] := by
  rw [dd_big (by omega), show (10 * r + d) / 10 = r by omega, show (10 * r + d) % 10 = d by omega]
theorem str_data (a : Nat) : (str a).data.toList = Lib.decDigits a := str_list a
theorem canonL_str (a : Nat) : canonL (str a).data.toList = true := by rw [str_list]; exact canon_dd a
theorem app_str (r d : Nat) (hr : 0 < r) (hd : d < 10) : str r ++ str d = str (10 * r + d) := by
  have e : (str r ++ str d).data.toList = Lib.decDigits (10 * r + d) := by
    rw [dd_step r d hr hd, ← dd_small hd]
    simp [str_list]
  refine str_eq _ ?_ ?_
  · rw [e]; exact canon_dd _
  · rw [e]; exact val_dd _
theorem ext_one (a i : Nat) (h : i < (str a).size) : (str a).extract i (i + 1) = str (a / 10 ^ ((str a).size - 1 - i) % 10) := by
  have hl : i < (str a).data.toList.length := by rw [len_list]; exact h
  have e : ((str a).extract i (i + 1)).data.toList = Lib.decDigits (a / 10 ^ ((str a).size - 1 - i) % 10) := by
    rw [ext_list, List.take_succ_eq_append_getElem hl, List.drop_append_of_le_length (by rw [List.length_take]; omega), List.drop_of_length_le (by rw [List.length_take]; omega), List.nil_append, dd_small (Nat.mod_lt _ (by decide))]
    have h1 := str_at a i h
    rw [← at_list] at h1
    rw [h1]
    rfl
  refine str_eq _ ?_ ?_
  · rw [e]; exact canon_dd _
  · rw [e]; exact val_dd _
theorem RowB.below {w w' : World} {B g cap n : Nat} {l : List UInt8} (h : RowB w B g cap n l) (hb : Below w.heap.size w w') : RowB w' B g cap n l :=
  ⟨h.1, World.ownsRow.kept (row := none) h.2 ⟨hb.os, hb.tape, hb.output, hb.size, fun j hj _ => hb.block j hj⟩ (.inr (by simp [Value.ownBlock]))⟩
/-- digits, then zeros -/
def dz (S : List UInt8) (m : Nat) : List UInt8 := S ++ List.replicate m 0
theorem dz_set (S : List UInt8) (m : Nat) (c : UInt8) : (dz S (m + 1)).set S.length c = dz (S ++ [c]) m := by
  unfold dz
  rw [List.set_append_right _ _ (Nat.le_refl _), Nat.sub_self, List.replicate_succ, List.set_cons_zero]
  simp
theorem dz_len (S : List UInt8) (m : Nat) : (dz S m).length = S.length + m := by simp [dz]
theorem dz_nil (m : Nat) : dig0 m [] = dz [] m := by simp [dig0, dz]
theorem dz_zero (S : List UInt8) : dz S 0 = S := by simp [dz]
theorem all_snoc {S : List UInt8} {c : Nat} (h : S.all isD = true) (hc : c < 10) : (S ++ [UInt8.ofNat (48 + c)]).all isD = true := by
  rw [List.all_append, h]
  show (true && (isD (UInt8.ofNat (48 + c)) && true)) = true
  rw [ofNat_isD hc]; rfl
/-- one step of the division by hand -/
theorem long_step {A b d c x r : Nat} (hb : 0 < b) (hr : r = A % b) (h : c * b + x = 10 * r + d) (hx : x < b) : (10 * A + d) / b = 10 * (A / b) + c ∧ (10 * A + d) % b = x := by
  have h1 := Nat.div_add_mod A b
  rw [← hr] at h1
  have h2 : 10 * A + d = x + b * (10 * (A / b) + c) := by
    have : b * (10 * (A / b) + c) = 10 * (b * (A / b)) + c * b := by rw [Nat.mul_add, Nat.mul_left_comm, Nat.mul_comm c]
    omega
  rw [h2]
  exact ⟨by rw [Nat.add_mul_div_left _ _ hb, Nat.div_eq_of_lt hx, Nat.zero_add], by rw [Nat.add_mul_mod_self_left, Nat.mod_eq_of_lt hx]⟩


theorem cmp_ge {a b : Nat} : (0 ≤ cmpN a b) ↔ b ≤ a := by
  unfold cmpN
  by_cases h : a < b
  · rw [if_pos h]; constructor
    · intro h1; exact absurd h1 (by decide)
    · intro h1; omega
  · rw [if_neg h]
    constructor
    · intro _; omega
    · intro _; split <;> decide
theorem div_le9 {b c d r x : Nat} (h : c * b + x = 10 * r + d) (hx : b ≤ x) (hr : r < b) (hd : d < 10) : c < 9 := by
  apply Nat.lt_of_not_le; intro h9
  have : 9 * b ≤ c * b := Nat.mul_le_mul_right b h9
  omega
theorem size_x {b c d r x n : Nat} (h : c * b + x = 10 * r + d) (hr : r < b) (hd : d < 10) (hb : (str b).size ≤ n) : (str x).size ≤ n + 1 := by
  refine str_big ?_ (by omega)
  have h1 := lt_of_size hb
  have : 10 ^ (n + 1) = 10 * 10 ^ n := by rw [Nat.pow_succ, Nat.mul_comm]
  omega

end Go.Proofs.YtdgbplppabalgaaGreatDoor

namespace Go.Proofs.YtdgbplppabalgaaGreatDoor
open Go.RowKit

theorem OwnP.join {w : World} {B : Nat} {v : Value} {p : List Nat} {a : Nat} (h : OwnP w B v p) (hp : Pcs p a) (hn : p.length ≤ 200000) :
    Calls Tryz.prog 155 #[v] w fun e w' => e = .returned (.string (str a)) ∧ Below w.heap.size w w' := by
  rcases h with ⟨rfl, rfl⟩ | ⟨g, cap, rfl, hr⟩
  · have ha : a = 0 := hp.val.symm
    have hs : str a = ⟨#[48]⟩ := by rw [ha]; exact (str_eq 0 (by decide) (by decide)).symm
    rw [hs]
    clear hs ha hp hn
    go_enter Tryz.func155, Tryz.ntmps155
    go_wp2_with fail
    go_ret
    exact ⟨rfl, Below.refl _ _⟩
  · exact join_any B g cap p a w hr hp hn

set_option maxHeartbeats 1600000 in
set_option maxRecDepth 100000 in
theorem dm_small (a b : Nat) (w : World) (hs : Std w) (ha : a < 18446744073709551616) (hb : b < 18446744073709551616) (hb0 : 0 < b) :
    Calls Tryz.prog 147 #[.string (str a), .string (str b)] w fun e w' => e = .returned (.tuple #[.string (str (a / b)), .string (str (a % b)), .int .i64 0]) ∧ Below w.heap.size w w' := by
  have hq0 : a / b ≤ a := Nat.div_le_self _ _
  have hm0 : a % b ≤ a := Nat.mod_le _ _
  have HB := Lib.hid (both_yes a b ha hb w)
  obtain ⟨q, hq⟩ : ∃ q, q = a / b := ⟨_, rfl⟩
  obtain ⟨r, hr⟩ : ∃ r, r = a % b := ⟨_, rfl⟩
  rw [← hq] at hq0 ⊢
  rw [← hr] at hm0 ⊢
  have HO : Hid (∀ (z : Nat) (w1 wx : World), z ≤ a → Std w1 → Below w1.heap.size w1 wx → Calls Tryz.prog 152 #[.int .u64 z] wx fun e w' => e = .returned (.string (str z)) ∧ Below w1.heap.size w1 w') :=
    Lib.hid (fun z w1 wx hz h1 hb => (of_any z (by omega) wx (h1.below hb)).mono fun e w' h => ⟨h.1, hb.trans (h.2.mono hb.size)⟩)
  have hqi : (a : Int) / (b : Int) = (q : Int) := by rw [hq]; simp
  have hri : (a : Int) % (b : Int) = (r : Int) := by rw [hr]; simp
  have hwq : IntKind.u64.wrap (q : Int) = (q : Int) := by rw [IntKind.wrap_u64]; omega
  have htm : (a : Int).tmod (b : Int) = (r : Int) := by rw [Int.tmod_eq_emod_of_nonneg (by omega)]; exact hri
  have htd : (a : Int).tdiv (b : Int) = (q : Int) := by rw [Int.tdiv_eq_ediv_of_nonneg (by omega)]; exact hqi
  have hnz : ((b : Int) == 0) = false := by rw [beq_eq_false_iff_ne]; omega
  have hnz' : ((b : Int) != 0) = true := by simp; omega
  clear hq hr ha hb
  go_enter Tryz.func147, Tryz.ntmps147
  go_wp2_with fail
  refine HB.out.mono ?_
  rintro e w1 ⟨rfl, h1⟩
  have HS1 := Lib.hid (hs.below h1)
  have H1 := Lib.hid h1
  clear h1 hs
  go_wp2_with fail
  have hb0 : Below w1.heap.size w1 w1.drew := Below.drew (Below.refl _ _)
  go_region_with (go_at_call 152; refine (HO.out _ w1 _ ?hz HS1.out ?hb).mono ?_; (case hb => assumption); (case hz => first | exact hq0 | exact hm0); rintro e w' ⟨rfl, h1⟩)
  all_goals
    go_wp2_with fail
    go_ret3
    exact ⟨rfl, H1.out.trans (Below.mono (by assumption) H1.out.size)⟩

set_option maxHeartbeats 1600000 in
set_option maxRecDepth 100000 in
theorem dm_zero (a b : Nat) (w : World) (hs : Std w) (ha : (str a).size ≤ 450000) (hb0 : b = 0) :
    Calls Tryz.prog 147 #[.string (str a), .string (str b)] w fun e w' => e = .returned (.tuple #[.string ⟨#[]⟩, .string ⟨#[]⟩, .int .i64 17]) ∧ Below w.heap.size w w' := by
  have hbs : (str b).size ≤ 20 := nd20 (by omega)
  have HCUT := Lib.hid (fun wx => cutBoth_any a b wx (by omega) (by omega))
  have HBN : ∃ (x y : Nat) (s : Bool), (s = true → y = 0) ∧ Hid (Calls Tryz.prog 151 #[.string (str a), .string (str b)] w fun e w' => e = .returned (.tuple #[.int .u64 x, .int .u64 y, .bool s]) ∧ Below w.heap.size w w') ∨ Hid (Calls Tryz.prog 151 #[.string (str a), .string (str b)] w fun e w' => ∃ x y : Nat, e = .returned (.tuple #[.int .u64 x, .int .u64 y, .bool false]) ∧ Below w.heap.size w w') := by
    by_cases h : a < 18446744073709551616 ∧ b < 18446744073709551616
    · exact ⟨a, b, true, .inl ⟨fun _ => hb0, Lib.hid (both_yes a b h.1 h.2 w)⟩⟩
    · exact ⟨0, 0, true, .inr (Lib.hid (both_no a b h w hs))⟩
  have HB0 := Lib.hid hb0
  clear hb0
  obtain ⟨x, y, s, ⟨hy, HB⟩ | HB⟩ := HBN
  · cases s with
    | false =>
      clear hy
      go_enter Tryz.func147, Tryz.ntmps147
      go_wp2_with fail
      refine HB.out.mono ?_
      rintro e w1 ⟨rfl, h1⟩
      go_wp2_with fail
      refine (HCUT.out _).mono ?_
      rintro e w3 ⟨g, cap, p, g', cap', q, rfl, hp, hq, hrp, hrq, hgg, hb3⟩
      have hq0 : q = [] := pv_zero hq.top (by rw [hq.val]; exact HB0.out)
      subst hq0
      clear hp hq hrp hrq hgg
      go_wp2_with fail
      go_ret3
      exact ⟨rfl, h1.trans (hb3.mono h1.size)⟩
    | true =>
      obtain rfl : y = 0 := hy rfl
      clear hy
      go_enter Tryz.func147, Tryz.ntmps147
      go_wp2_with fail
      refine HB.out.mono ?_
      rintro e w1 ⟨rfl, h1⟩
      go_wp2_with fail
      refine (HCUT.out _).mono ?_
      rintro e w3 ⟨g, cap, p, g', cap', q, rfl, hp, hq, hrp, hrq, hgg, hb3⟩
      have hq0 : q = [] := pv_zero hq.top (by rw [hq.val]; exact HB0.out)
      subst hq0
      clear hp hq hrp hrq hgg
      go_wp2_with fail
      go_ret3
      exact ⟨rfl, h1.trans (hb3.mono h1.size)⟩
  · go_enter Tryz.func147, Tryz.ntmps147
    go_wp2_with fail
    refine HB.out.mono ?_
    rintro e w1 ⟨x, y, rfl, h1⟩
    go_wp2_with fail
    refine (HCUT.out _).mono ?_
    rintro e w3 ⟨g, cap, p, g', cap', q, rfl, hp, hq, hrp, hrq, hgg, hb3⟩
    have hq0 : q = [] := pv_zero hq.top (by rw [hq.val]; exact HB0.out)
    subst hq0
    clear hp hq hrp hrq hgg
    go_wp2_with fail
    go_ret3
    exact ⟨rfl, h1.trans (hb3.mono h1.size)⟩

set_option maxHeartbeats 1600000 in
theorem dm_big (a b : Nat) (w : World) (hs : Std w) (ha : (str a).size ≤ 450000) (hb : (str b).size ≤ 450000) (h64 : ¬ (a < 18446744073709551616 ∧ b < 18446744073709551616)) (hb0 : 0 < b) :
    Calls Tryz.prog 147 #[.string (str a), .string (str b)] w fun e w' => e = .returned (.tuple #[.string (str (a / b)), .string (str (a % b)), .int .i64 0]) ∧ Below w.heap.size w w' := by
  have HCUT := Lib.hid (fun wx => cutBoth_any a b wx (by omega) (by omega))
  have HBN := Lib.hid (both_no a b h64 w hs)
  obtain ⟨dq, dr, hdq⟩ : ∃ d r : Nat, d = a / b ∧ r = a % b := ⟨_, _, rfl, rfl⟩
  have hla : (str dq).size ≤ 450000 ∧ (str dr).size ≤ 450000 := by
    rw [hdq.1, hdq.2]
    exact ⟨Nat.le_trans (size_mono (Nat.div_le_self a b)) ha, Nat.le_trans (size_mono (Nat.mod_le a b)) ha⟩
  rw [← hdq.1, ← hdq.2]
  have HDQ := Lib.hid hdq
  have HLA := Lib.hid hla
  clear h64 hdq hla
  go_enter Tryz.func147, Tryz.ntmps147
  go_wp2_with fail
  refine HBN.out.mono ?_
  rintro e w1 ⟨x, y, rfl, hb1'⟩
  go_wp2_with fail
  refine (HCUT.out _).mono ?_
  rintro e w3 ⟨g, cap, p, g', cap', q, rfl, hp, hq, hrp, hrq, hgg, hb3⟩
  have hlp := hp.len_le (n := 50000) (by omega)
  have hlq0 := pcs_pos hq hb0
  have hqn : ((q.length : Int) == 0) = false := by rw [beq_eq_false_iff_ne]; omega
  have hdv := divide_any _ g cap g' cap' p q a b w3 hrp hrq (by omega) hp hq (by omega) hb0 hb3.size
  have hsz := hrp.len_cap
  have hsz' := hrq.len_cap
  unfold maxLen at hsz hsz'
  have HDV := Lib.hid hdv
  clear hp hq hrp hrq hgg hdv
  go_wp2_with fail
  refine HDV.out.mono ?_
  rintro e w4 ⟨v1, v2, q1, r1, rfl, hq1, hr1, ho1, ho2, hb4⟩
  rw [← HDQ.out.1] at hq1
  rw [← HDQ.out.2] at hr1
  have hl1 := hq1.len_le (n := 50000) HLA.out.1
  have hl2 := hr1.len_le (n := 50000) HLA.out.2
  have HJ1 := Lib.hid (ho1.join hq1 (by omega))
  have HJ2 := Lib.hid (fun wx (hw : Below w4.heap.size w4 wx) => (ho2.below hw).join hr1 (by omega))
  clear hq1 hr1 ho1 ho2 hl1 hl2
  clear HDV HCUT HBN
  go_wp2_with fail
  refine HJ1.out.mono ?_
  rintro e w5 ⟨rfl, hb5⟩
  go_wp2_with fail
  refine (HJ2.out _ hb5).mono ?_
  rintro e w6 ⟨rfl, hb6⟩
  go_wp2_with fail
  go_ret3
  have s1 := hb1'.size
  have s3 := hb3.size
  have s4 := hb4.size
  have s5 := hb5.size
  exact ⟨rfl, (((hb1'.trans ((hb3.trans hb4).mono s1))).trans (hb5.mono (by omega))).trans (hb6.mono (by omega))⟩

theorem dm_any (a b : Nat) (w : World) (hs : Std w) (ha : (str a).size ≤ 450000) (hb : (str b).size ≤ 450000) (hb0 : 0 < b) :
    Calls Tryz.prog 147 #[.string (str a), .string (str b)] w fun e w' => e = .returned (.tuple #[.string (str (a / b)), .string (str (a % b)), .int .i64 0]) ∧ Below w.heap.size w w' := by
  by_cases h : a < 18446744073709551616 ∧ b < 18446744073709551616
  · exact dm_small a b w hs h.1 h.2 hb0
  · exact dm_big a b w hs ha hb h hb0
end Go.Proofs.YtdgbplppabalgaaGreatDoor

namespace Go.Proofs.YtdgbplppabalgaaGreatDoor
open Go.RowKit


theorem str30 : str 1073741824 = ⟨#[49, 48, 55, 51, 55, 52, 49, 56, 50, 52]⟩ := (str_eq _ (by decide) (by decide)).symm
theorem two_le {a m s : Nat} (h : 2 ^ m ≤ a) (hs : (str a).size ≤ s) : m ≤ 4 * s := by
  have h1 := lt_of_size hs
  have h2 : (10 : Nat) ^ s ≤ (2 ^ 4) ^ s := Nat.pow_le_pow_left (by decide) _
  rw [← Nat.pow_mul] at h2
  have h3 : 2 ^ m < 2 ^ (4 * s) := by omega
  exact Nat.le_of_lt ((Nat.pow_lt_pow_iff_right (a := 2) (by decide)).1 h3)
theorem div_pos_le {X j : Nat} (h : 0 < X / 2 ^ j) : 2 ^ j ≤ X := by
  apply Nat.le_of_not_lt; intro h1
  rw [Nat.div_eq_of_lt h1] at h; omega
theorem bits_end {X j : Nat} (h : X / 2 ^ j = 0) (h0 : j = 0 ∨ 0 < X / 2 ^ (j - 1)) : BitsOf X j := by
  refine ⟨?_, ?_⟩
  · rcases Nat.div_eq_zero_iff.1 h with h1 | h1
    · exact absurd h1 (Nat.ne_of_gt (Nat.pow_pos (by decide)))
    · exact h1
  · rcases h0 with h0 | h0
    · exact .inl h0
    · exact .inr (div_pos_le h0)
theorem strval (X : Nat) : val (str X).data.toList = X := by rw [str_list]; exact val_dd X

end Go.Proofs.YtdgbplppabalgaaGreatDoor

namespace Go.Proofs.YtdgbplppabalgaaGreatDoor
open Go.RowKit

theorem gcd_step (a b : Nat) : Nat.gcd b (a % b) = Nat.gcd a b := by
  rw [Nat.gcd_comm b, ← Nat.gcd_rec, Nat.gcd_comm]

set_option maxHeartbeats 800000 in
set_option maxRecDepth 100000 in
theorem smallGcd_any (a b : Nat) (w : World) (ha : a < 18446744073709551616) (hb : b < 18446744073709551616) :
    Calls Tryz.prog 153 #[.int .u64 a, .int .u64 b] w fun e w' => e = .returned (.int .u64 ((Nat.gcd a b : Nat) : Int)) ∧ Below w.heap.size w w' := by
  obtain ⟨d, hd⟩ : ∃ d, d = Nat.gcd a b := ⟨_, rfl⟩
  rw [← hd]
  have HD := Lib.hid hd
  clear hd
  go_enter Tryz.func153, Tryz.ntmps153
  go_wp2_with fail
  go_loopw [0, 1] (fun av bv wr => ∃ x y : Nat, av = .int .u64 x ∧ bv = .int .u64 y ∧ x < 18446744073709551616 ∧ y < 18446744073709551616 ∧ Hid (d = Nat.gcd x y) ∧ Below w.heap.size w wr) (fun _ bv _ => (intOf bv).toNat)
  case atStart => exact ⟨a, b, rfl, rfl, ha, hb, HD, Below.refl _ _⟩
  case round =>
    obtain ⟨x, y, rfl, rfl, hx, hy, HI, hbel⟩ := hrel
    have HBL := Lib.hid hbel
    clear hbel HD ha hb
    by_cases hy0 : y = 0
    · subst hy0
      have hdx : d = x := by rw [HI.out, Nat.gcd_zero_right]
      subst hdx
      go_wp2_with fail
      go_ret
      exact ⟨rfl, HBL.out⟩
    · have hyz : ((y : Int) == 0) = false := by rw [beq_eq_false_iff_ne]; omega
      obtain ⟨r, hr⟩ : ∃ r, r = x % y := ⟨_, rfl⟩
      have hri : (x : Int).tmod (y : Int) = (r : Int) := by rw [Int.tmod_eq_emod_of_nonneg (by omega), hr]; simp
      have hry : r < y := by rw [hr]; exact Nat.mod_lt _ (by omega)
      have HI2 := Lib.hid (show d = Nat.gcd y r by rw [hr, gcd_step]; exact HI.out)
      clear hr hy0
      go_wp2_with fail
      go_quiet (fail)
      go_wp2_with fail
      refine ⟨⟨y, r, rfl, rfl, hy, by omega, HI2, below_drewN HBL.out _⟩, ?_⟩
      simp [intOf] <;> omega

theorem str_zero_beq (b : Nat) : ((str b).toList == [48]) = decide (b = 0) := is0 b

end Go.Proofs.YtdgbplppabalgaaGreatDoor

namespace Go.Proofs.YtdgbplppabalgaaGreatDoor
open Go.RowKit

theorem modH_step (P B x n : Nat) : (x + B * P) % n = (P % n * B + x) % n := by
  rw [Nat.add_comm x, Nat.mul_comm B, Nat.add_mod (P * B), Nat.mul_mod P B, Nat.add_mod (P % n * B), Nat.mul_mod (P % n) B, Nat.mod_mod]
/-- what short answers -/
def shB (b : List Nat) : Bool := decide (b.length ≤ 2)
def shN (b : List Nat) : Nat := if b.length ≤ 2 then pv b else 0
theorem short_both (B g cap : Nat) (l : List Nat) (w : World) (h : Row w B g cap l) (h9 : lt9 l) :
    Calls Tryz.prog 186 #[.slice (some ⟨g, 0, none⟩) l.length cap] w fun e w' => e = .returned (.tuple #[.int .u64 (shN l : Int), .bool (shB l)]) ∧ Below w.heap.size w w' := by
  by_cases hl : l.length ≤ 2
  · unfold shN shB; rw [if_pos hl, decide_eq_true hl]; exact short_yes B g cap l w h hl h9
  · unfold shN shB; rw [if_neg hl, decide_eq_false hl]
    refine (short_no B g cap l w h (by omega)).mono ?_
    rintro e w' ⟨rfl, rfl⟩
    exact ⟨rfl, Below.refl _ _⟩
theorem reduce_both (B g cap g' cap' : Nat) (a b : List Nat) (w : World) (ha : Row w B g cap a) (hb : Row w B g' cap' b) (hg : g' ≠ g) (h2 : 2 ≤ b.length) (ha9 : lt9 a) (hb9 : lt9 b) (htop : Go.Proofs.YtdgbplppabalgaaGreatDoor.top b) (hlen : a.length ≤ 200000) (hB : B ≤ w.heap.size) :
    Calls Tryz.prog 187 #[.slice (some ⟨g, 0, none⟩) a.length cap, .slice (some ⟨g', 0, none⟩) b.length cap', .slice none 0 0] w fun e w' => ∃ (g1 cap1 : Nat) (p : List Nat), e = .returned (.slice (some ⟨g1, 0, none⟩) p.length cap1) ∧ Pcs p (pv a % pv b) ∧ Row w' B g1 cap1 p ∧ Row w' B g' cap' b ∧ g1 ≠ g' ∧ Below B w w' := by
  by_cases hab : a.length < b.length
  · exact reduce_less B g cap g' cap' a b w ha hb hg hab ha9 htop hlen hB
  · exact reduce_nil B g cap g' cap' a b w ha hb hg (by omega) h2 ha9 hb9 htop hlen hB
/-- what gcd leaves -/
def GcdPost (B d : Nat) (w : World) (e : Ending) (w' : World) : Prop := ∃ (g cap : Nat) (p : List Nat), e = .returned (.slice (some ⟨g, 0, none⟩) p.length cap) ∧ Pcs p d ∧ Row w' B g cap p ∧ Below B w w'
theorem mod_len {p b : List Nat} {x y : Nat} (hp : Pcs p (x % y)) (hb : Pcs b y) (hy : 0 < y) : p.length ≤ b.length :=
  hp.len_of_lt (Nat.lt_trans (Nat.mod_lt x hy) (by have := pv_lt b hb.lt; rw [hb.val] at this; exact this))

set_option maxHeartbeats 3200000 in
set_option maxRecDepth 100000 in
theorem gcd_rows (B g cap g' cap' : Nat) (a b : List Nat) (x y : Nat) (w : World) (ha : Row w B g cap a) (hb : Row w B g' cap' b) (hgg : g' ≠ g) (pa : Pcs a x) (pb : Pcs b y) (hla : a.length ≤ 200000) (hlb : b.length ≤ 200000) (hB : B ≤ w.heap.size) :
    Calls Tryz.prog 156 #[.slice (some ⟨g, 0, none⟩) a.length cap, .slice (some ⟨g', 0, none⟩) b.length cap'] w (GcdPost B (Nat.gcd x y) w) := by
  obtain ⟨d, hd⟩ : ∃ d, d = Nat.gcd x y := ⟨_, rfl⟩
  rw [← hd]
  have HD := Lib.hid hd
  have HSB := Lib.hid (short_both B g' cap' b w hb pb.lt)
  have HA := Lib.hid ha
  have HBR := Lib.hid hb
  have HPA := Lib.hid pa
  have HPB := Lib.hid pb
  have HG := Lib.hid hgg
  have hca := ha.len_cap
  have hcb := hb.len_cap
  unfold maxLen at hca hcb
  clear ha hb pa pb hgg hd
  go_enter Tryz.func156, Tryz.ntmps156
  go_wp2_with fail
  refine HSB.out.mono ?_
  rintro e w0 ⟨rfl, hb0⟩
  have HB0 := Lib.hid hb0
  clear hb0
  go_wp2_with fail
  go_loopg [0, 1, 5, 6] y (fun k av bv nv sv  wr => ∃ (g cap g' cap' : Nat) (a b : List Nat) (x : Nat), av = .slice (some ⟨g, 0, none⟩) a.length cap ∧ bv = .slice (some ⟨g', 0, none⟩) b.length cap' ∧ nv = .int .u64 (shN b : Int) ∧ sv = .bool (shB b) ∧ a.length ≤ 200000 ∧ b.length ≤ 200000 ∧ Hid (Pcs a x ∧ Pcs b k ∧ d = Nat.gcd x k ∧ g' ≠ g ∧ Row wr B g cap a ∧ Row wr B g' cap' b ∧ Below B w wr))
  case atStart =>
    exact ⟨g, cap, g', cap', a, b, x, rfl, rfl, rfl, rfl, hla, hlb, Lib.hid ⟨HPA.out, HPB.out, HD.out, HG.out, HA.out.below HB0.out, HBR.out.below HB0.out, HB0.out.mono hB⟩⟩
  case round =>
    obtain ⟨g, cap, g', cap', a, b, x, rfl, rfl, rfl, rfl, hla, hlb, HI⟩ := hrel
    clear HSB HA HBR HPA HPB HG hca hcb HB0
    have hca := HI.out.2.2.2.2.1.len_cap
    have hcb := HI.out.2.2.2.2.2.1.len_cap
    unfold maxLen at hca hcb
    by_cases hl : b.length ≤ 2
    · have hsb : shB b = true := decide_eq_true hl
      have hsn : shN b = gk := by unfold shN; rw [if_pos hl]; exact HI.out.2.1.val
      rw [hsb, hsn]
      clear hsb hsn
      by_cases h0 : gk = 0
      · subst h0
        have HF : Hid (GcdPost B d w (.returned (.slice (some ⟨g, 0, none⟩) a.length cap)) wr) := by
          obtain ⟨i1, i2, i3, i4, i5, i6, i7⟩ := HI.out
          exact Lib.hid ⟨g, cap, a, rfl, by rw [i3, Nat.gcd_zero_right]; exact i1, i5, i7⟩
        clear HI
        go_wp2_with fail
        go_ret
        exact HF.out
      · have hk18 : gk < 1000000000000000000 := by have := pv_two18 HI.out.2.1.lt hl; rw [HI.out.2.1.val] at this; exact this
        have hkz : ((gk : Int) == 0) = false := by rw [beq_eq_false_iff_ne]; omega
        have hk0 : 0 < gk := by omega
        obtain ⟨M, hM⟩ : ∃ M : Nat, M = 18446744073709551616 := ⟨_, rfl⟩
        have hkM : gk < M := by omega
        have HTS := Lib.hid (fun r p (wx : World) (h1 : r < gk) (h2 : p < 1000000000) => takeShort_any r p gk h1 h2 (by omega) wx)
        have HGS := Lib.hid (fun r (wx : World) (h1 : r < gk) => smallGcd_any gk r wx (by omega) (by omega))
        have HK18 := Lib.hid hk18
        clear h0 hM hkM hk18
        obtain ⟨wo, rfl⟩ : ∃ wo : World, wo = wr := ⟨_, rfl⟩
        go_wp2_with fail
        go_loopw [7, 8] (fun rv iv wr2 => ∃ (E : Int) (k r : Nat), iv = .int .i64 E ∧ -1 ≤ E ∧ E < a.length ∧ rv = .int .u64 (r : Int) ∧ r < gk ∧ Hid (E = (k : Int) - 1 ∧ k ≤ a.length ∧ r = pv (a.drop k) % gk ∧ Below wo.heap.size wo wr2)) (fun rv iv _ => (intOf iv + 1).toNat)
        case atStart =>
          refine ⟨(a.length : Int) - 1, a.length, 0, rfl, by omega, by omega, rfl, hk0, Lib.hid ⟨rfl, Nat.le_refl _, by rw [List.drop_length]; simp [pv], Below.refl _ _⟩⟩
        case round =>
          obtain ⟨E, k, r, rfl, hE1, hE2, rfl, hr, HJ⟩ := hrel
          have hEk := HJ.out.1
          by_cases hE : 0 ≤ E
          · obtain ⟨j, rfl⟩ : ∃ j : Nat, E = j := ⟨E.toNat, by omega⟩
            obtain rfl : k = j + 1 := by omega
            have hj : j < a.length := by omega
            have hcell := (HI.out.2.2.2.2.1.below HJ.out.2.2.2).cell j hj
            have hp9 := lt9_at HI.out.1.lt j hj
            have hnx : pv (a.drop j) % gk = (r * 1000000000 + a[j]) % gk := by
              rw [List.drop_eq_getElem_cons hj, pv_consN, HJ.out.2.2.1]
              exact modH_step _ _ _ _
            obtain ⟨p, hp⟩ : ∃ p, p = a[j] := ⟨_, rfl⟩
            rw [← hp] at hcell hp9 hnx
            have HNX := Lib.hid hnx
            have hmk : (r * 1000000000 + p) % gk < gk := Nat.mod_lt _ hk0
            have HC := Lib.hid (HTS.out r p wr hr hp9)
            obtain ⟨m, hm⟩ : ∃ m, m = (r * 1000000000 + p) % gk := ⟨_, rfl⟩
            obtain ⟨q, hq⟩ : ∃ q, q = (r * 1000000000 + p) / gk := ⟨_, rfl⟩
            rw [← hm, ← hq] at HC
            rw [← hm] at HNX hmk
            clear hp hnx hm hq hEk
            go_wp2_with fail
            refine HC.out.mono ?_
            rintro e w3 ⟨rfl, hb3⟩
            have HJ2 : Hid ((j : Int) - 1 = (j : Int) - 1 ∧ j ≤ a.length ∧ m = pv (a.drop j) % gk ∧ Below wo.heap.size wo w3) := Lib.hid ⟨rfl, by omega, HNX.out.symm, HJ.out.2.2.2.trans (hb3.mono HJ.out.2.2.2.size)⟩
            clear hb3 HC HNX
            go_wp2_with fail
            refine ⟨⟨(j : Int) - 1, j, m, rfl, by omega, by omega, rfl, hmk, Lib.hid ⟨rfl, HJ2.out.2⟩⟩, ?_⟩
            clear HJ2
            show ((j : Int) - 1 + 1).toNat < ((j : Int) + 1).toNat
            omega
          · obtain rfl : k = 0 := by omega
            have hr2 : r = x % gk := by rw [HJ.out.2.2.1, List.drop_zero, HI.out.1.val]
            have hdg : Nat.gcd gk r = d := by rw [hr2, gcd_step, ← HI.out.2.2.1]
            have HC := Lib.hid (HGS.out r wr hr)
            rw [hdg] at HC
            have hd18 : d < 1000000000000000000 := by
              have : d ≤ gk := by rw [← hdg]; exact Nat.gcd_le_left _ hk0
              have := HK18.out
              omega
            clear hr2 hdg hEk
            go_wp2_with fail
            refine HC.out.mono ?_
            rintro e w4 ⟨rfl, hb4⟩
            have hrt := Row.two w4 (d % 1000000000) (d / 1000000000)
            have e1 : ((d % 1000000000 : Nat) : Int) = (d : Int) % 1000000000 := by omega
            have e2 : ((d / 1000000000 : Nat) : Int) = (d : Int) / 1000000000 := by omega
            rw [e1, e2] at hrt
            have htr := trim_any w4.heap.size w4.heap.size 2 [d % 1000000000, d / 1000000000] _ hrt
            have h9r : lt9 [d % 1000000000, d / 1000000000] := by
              intro z hz; simp at hz; omega
            have hpr : pv [d % 1000000000, d / 1000000000] = d := by simp [pv]; omega
            have HT := Lib.hid htr
            have hpc := Pcs.of_trim h9r
            rw [hpr] at hpc
            have htk := hrt.take (trimP [d % 1000000000, d / 1000000000]).length (trimP_props _).2.2.2.1
            rw [← (trimP_props [d % 1000000000, d / 1000000000]).2.2.2.2] at htk
            have hbz : Below w4.heap.size w4 (w4.alloc (.cells #[.int .u64 ((d : Int) % 1000000000), .int .u64 ((d : Int) / 1000000000)] 135)) := (Below.refl _ _).alloc (Nat.le_refl _) _
            have hs1 := HI.out.2.2.2.2.2.2.size
            have hs2 := HJ.out.2.2.2.size
            have hs3 := hb4.size
            have HF : Hid (GcdPost B d w (.returned (.slice (some ⟨w4.heap.size, 0, none⟩) (trimP [d % 1000000000, d / 1000000000]).length 2)) (w4.alloc (.cells #[.int .u64 ((d : Int) % 1000000000), .int .u64 ((d : Int) / 1000000000)] 135))) :=
              Lib.hid ⟨_, _, _, rfl, hpc, htk.mono (by omega), (((HI.out.2.2.2.2.2.2.trans (HJ.out.2.2.2.mono (by omega))).trans (hb4.mono (by omega))).trans (hbz.mono (by omega)))⟩
            clear hrt e1 e2 htr h9r hpr hpc htk hbz hb4 HI HJ HTS HGS hs1 hs2 hs3
            go_wp2_with fail
            refine HT.out.mono ?_
            rintro e w5 ⟨rfl, rfl⟩
            go_wp2_with fail
            go_ret
            exact HF.out
    · have hsb : shB b = false := decide_eq_false hl
      obtain ⟨sn, hsn⟩ : ∃ sn, sn = shN b := ⟨_, rfl⟩
      rw [hsb, ← hsn]
      obtain ⟨i1, i2, i3, i4, i5, i6, i7⟩ := HI.out
      have hk0 : 0 < gk := by
        rw [← i2.val]
        exact Nat.lt_of_lt_of_le (Nat.pow_pos (by decide)) (top_big i2.top (by intro e; rw [e] at hl; simp at hl))
      have hs7 := i7.size
      have hrd := reduce_both B g cap g' cap' a b wr i5 i6 i4 (by omega) i1.lt i2.lt i2.top hla (Nat.le_trans hB hs7)
      rw [i1.val, i2.val] at hrd
      have HR := Lib.hid hrd
      have HK0 := Lib.hid hk0
      have HB7 := Lib.hid i7
      have HP2 := Lib.hid i2
      have HGC := Lib.hid (show d = Nat.gcd gk (x % gk) by rw [gcd_step]; exact i3)
      clear hsb hsn i1 i2 i3 i4 i5 i6 i7 hk0 hs7 hrd HI HD
      go_wp2_with fail
      refine HR.out.mono ?_
      rintro e w3 ⟨g1, cap1, p, rfl, hp, hrp, hrb, hne, hb3⟩
      have hlp : p.length ≤ 200000 := Nat.le_trans (mod_len hp HP2.out HK0.out) hlb
      have HSB := Lib.hid (short_both B g1 cap1 p w3 hrp hp.lt)
      have HI2 := Lib.hid (show Pcs b gk ∧ Pcs p (x % gk) ∧ d = Nat.gcd gk (x % gk) ∧ g1 ≠ g' ∧ Row w3 B g' cap' b ∧ Row w3 B g1 cap1 p ∧ Below B w w3 from ⟨HP2.out, hp, HGC.out, hne, hrb, hrp, HB7.out.trans hb3⟩)
      have hcp := hrp.len_cap
      unfold maxLen at hcp
      clear hp hrp hrb hne hb3 HR HB7 HP2 HGC
      go_wp2_with fail
      refine HSB.out.mono ?_
      rintro e w4 ⟨rfl, hb4⟩
      have HI3 := Lib.hid (show Pcs b gk ∧ Pcs p (x % gk) ∧ d = Nat.gcd gk (x % gk) ∧ g1 ≠ g' ∧ Row w4 B g' cap' b ∧ Row w4 B g1 cap1 p ∧ Below B w w4 from
        ⟨HI2.out.1, HI2.out.2.1, HI2.out.2.2.1, HI2.out.2.2.2.1, HI2.out.2.2.2.2.1.below hb4, HI2.out.2.2.2.2.2.1.below hb4, HI2.out.2.2.2.2.2.2.trans (hb4.mono (Nat.le_trans hB HI2.out.2.2.2.2.2.2.size))⟩)
      clear HSB HI2 hb4
      go_wp2_with fail
      go_roundg (x % gk)
      case measure => exact Nat.mod_lt _ HK0.out
      case rel => exact ⟨g', cap', g1, cap1, b, p, gk, rfl, rfl, rfl, rfl, hlb, hlp, HI3⟩

set_option maxHeartbeats 1600000 in
set_option maxRecDepth 100000 in
theorem gcdN_any (a b : Nat) (w : World) (hs : Std w) (ha : (str a).size ≤ 450000) (hb : (str b).size ≤ 450000) :
    Calls Tryz.prog 111 #[.string (str a), .string (str b)] w fun e w' => e = .returned (.string (str (Nat.gcd a b))) ∧ Below w.heap.size w w' := by
  have hgs : (str (Nat.gcd a b)).size ≤ 450000 := by
    by_cases h : a = 0
    · rw [h, Nat.gcd_zero_left]; exact hb
    · exact Nat.le_trans (size_mono (Nat.gcd_le_left b (by omega))) ha
  by_cases h64 : a < 18446744073709551616 ∧ b < 18446744073709551616
  · have HB := Lib.hid (both_yes a b h64.1 h64.2 w)
    have HG := Lib.hid (fun wx => smallGcd_any a b wx h64.1 h64.2)
    have hd64 : Nat.gcd a b < 18446744073709551616 := by
      by_cases h : a = 0
      · rw [h, Nat.gcd_zero_left]; exact h64.2
      · exact Nat.lt_of_le_of_lt (Nat.gcd_le_left b (by omega)) h64.1
    obtain ⟨d, hd⟩ : ∃ d, d = Nat.gcd a b := ⟨_, rfl⟩
    rw [← hd] at HG hd64 ⊢
    have HO := Lib.hid (fun wx hx => of_any d hd64 wx hx)
    clear hgs h64 hd hd64
    go_enter Tryz.func111, Tryz.ntmps111
    go_wp2_with fail
    refine HB.out.mono ?_
    rintro e w1 ⟨rfl, h1⟩
    have H1 := Lib.hid h1
    clear h1
    go_wp2_with fail
    refine (HG.out _).mono ?_
    rintro e w2 ⟨rfl, h2⟩
    have H2 := Lib.hid (H1.out.trans (h2.mono H1.out.size))
    clear h2
    go_wp2_with fail
    refine (HO.out _ (hs.below H2.out)).mono ?_
    rintro e w3 ⟨rfl, h3⟩
    go_wp2_with fail
    go_ret
    exact ⟨rfl, H2.out.trans (h3.mono H2.out.size)⟩
  · have HCUT := Lib.hid (fun wx => cutBoth_any a b wx (by omega) (by omega))
    have HBN := Lib.hid (both_no a b h64 w hs)
    have HGS := Lib.hid hgs
    clear h64 hgs
    go_enter Tryz.func111, Tryz.ntmps111
    go_wp2_with fail
    refine HBN.out.mono ?_
    rintro e w1 ⟨x, y, rfl, hb1⟩
    go_wp2_with fail
    refine (HCUT.out _).mono ?_
    rintro e w3 ⟨g, cap, p, g', cap', q, rfl, hp, hq, hrp, hrq, hgg, hb3⟩
    have hlp := hp.len_le (n := 50000) (by omega)
    have hlq := hq.len_le (n := 50000) (by omega)
    have HG := Lib.hid (gcd_rows _ g cap g' cap' p q a b w3 hrp hrq (by omega) hp hq (by omega) (by omega) hb3.size)
    clear hp hq hrp hrq hgg
    go_wp2_with fail
    refine HG.out.mono ?_
    rintro e w4 ⟨g2, cap2, r, rfl, hr, hrr, hb4⟩
    have hlr := hr.len_le (n := 50000) (by have := HGS.out; omega)
    have HJ := Lib.hid (join_any _ g2 cap2 r _ w4 hrr hr (by omega))
    clear hr hrr
    go_wp2_with fail
    refine HJ.out.mono ?_
    rintro e w5 ⟨rfl, hb5⟩
    go_wp2_with fail
    go_ret
    have s1 := hb1.size
    have s3 := hb3.size
    have s4 := hb4.size
    exact ⟨rfl, (hb1.trans ((hb3.trans hb4).mono s1)).trans (hb5.mono (by omega))⟩


end Go.Proofs.YtdgbplppabalgaaGreatDoor

namespace Go.Proofs.YtdgbplppabalgaaGreatDoor
open Go.RowKit

set_option maxHeartbeats 800000 in
theorem gcdW_any (x y : Int) (w : World) (hs : Std w) (hx : (str x.natAbs).size ≤ 400000) (hy : (str y.natAbs).size ≤ 400000) :
    Calls Tryz.prog 66 #[.string (zS x), .string (zS y)] w fun e w' => e = .returned (.string (str (Nat.gcd x.natAbs y.natAbs))) ∧ Below w.heap.size w w' := by
  have HX := Lib.hid (fun wx => abs_any x wx (by omega))
  have HY := Lib.hid (fun wx => abs_any y wx (by omega))
  have HG := Lib.hid (fun wx hw => gcdN_any x.natAbs y.natAbs wx hw (by omega) (by omega))
  have HS := Lib.hid hs
  obtain ⟨s, hs2⟩ : ∃ s, s = zS x := ⟨_, rfl⟩
  obtain ⟨t, ht⟩ : ∃ t, t = zS y := ⟨_, rfl⟩
  obtain ⟨p, hp⟩ : ∃ p, p = str x.natAbs := ⟨_, rfl⟩
  obtain ⟨q, hq⟩ : ∃ q, q = str y.natAbs := ⟨_, rfl⟩
  obtain ⟨g, hg⟩ : ∃ g, g = str (Nat.gcd x.natAbs y.natAbs) := ⟨_, rfl⟩
  rw [← hs2] at HX ⊢
  rw [← ht] at HY ⊢
  rw [← hp] at HX HG
  rw [← hq] at HY HG
  rw [← hg] at HG ⊢
  clear hs hx hy hs2 ht hp hq hg
  go_enter Tryz.func66, Tryz.ntmps66
  go_wp2_with fail
  refine (HX.out _).mono ?_
  rintro e w1 ⟨rfl, h1⟩
  have B1 := Lib.hid h1
  clear h1
  go_wp2_with fail
  refine (HY.out _).mono ?_
  rintro e w2 ⟨rfl, h2⟩
  have B2 := Lib.hid (B1.out.trans (h2.mono B1.out.size))
  clear h2
  go_wp2_with fail
  refine (HG.out _ (HS.out.below B2.out)).mono ?_
  rintro e w3 ⟨rfl, h3⟩
  have B3 := Lib.hid (B2.out.trans (h3.mono B2.out.size))
  clear h3
  go_wp2_with fail
  go_ret
  exact ⟨rfl, B3.out⟩
end Go.Proofs.YtdgbplppabalgaaGreatDoor
