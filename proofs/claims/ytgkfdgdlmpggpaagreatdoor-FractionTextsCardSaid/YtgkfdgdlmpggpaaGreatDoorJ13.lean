/-
  Texts of one seat, joined: Divide Known Tools Refs RefAdd RefSub ExpsLaw RefLimbs RefMul PowersLaw RefDiv.
-/
import Derived.Test.YtgkfdgdlmpggpaaGreatDoorJ12
import Derived.Test.YtgkfdgdlmpggpaaGreatDoorJ4
import Derived.Test.YtgkfdgdlmpggpaaGreatDoorJ8
import Derived.Test.YtgkfdgdlmpggpaaGreatDoorJ5
import Derived.Test.YtgkfdgdlmpggpaaGreatDoorJ9
import Derived.OpenShut
import Derived.IntWalk
import Derived.Deep.QuietTactic
import Derived.BigQuiet
import Derived.Deep.RegionWith
namespace Go.Proofs.YtgkfdgdlmpggpaaGreatDoor
open Go.RowKit

/-- a value is a row of the call's own, or nil -/
def OwnP (w : World) (B : Nat) (v : Value) (p : List Nat) : Prop := (p = [] ∧ v = .slice none 0 0) ∨ ∃ g cap, v = .slice (some ⟨g, 0, none⟩) p.length cap ∧ Row w B g cap p
theorem OwnP.below {w w' : World} {B : Nat} {v : Value} {p : List Nat} (h : OwnP w B v p) (hb : Below w.heap.size w w') : OwnP w' B v p := by
  rcases h with h | ⟨g, cap, e, hr⟩
  · exact .inl h
  · exact .inr ⟨g, cap, e, hr.below hb⟩
theorem pv_two18 {b : List Nat} (h : lt9 b) (hl : b.length ≤ 2) : pv b < 1000000000000000000 := by
  have h1 := pv_lt b h
  have h2 : 1000000000 ^ b.length ≤ 1000000000 ^ 2 := Nat.pow_le_pow_right (by decide) hl
  omega

/-- what divide leaves -/
def DivPost (B x y : Nat) (w : World) (e : Ending) (w' : World) : Prop := ∃ (v1 v2 : Value) (q r : List Nat), e = .returned (.tuple #[v1, v2]) ∧ Pcs q (x / y) ∧ Pcs r (x % y) ∧ OwnP w' B v1 q ∧ OwnP w' B v2 r ∧ Below B w w'

set_option maxHeartbeats 1600000 in
set_option maxRecDepth 100000 in
theorem divide_short (B g cap g' cap' : Nat) (a b : List Nat) (x y : Nat) (w : World) (ha : Row w B g cap a) (hb : Row w B g' cap' b) (pa : Pcs a x) (pb : Pcs b y) (hla : a.length ≤ 200000) (hlb : b.length ≤ 2) (hy : 0 < y) (hB : B ≤ w.heap.size) :
    Calls Tryz.prog 181 #[.slice (some ⟨g, 0, none⟩) a.length cap, .slice (some ⟨g', 0, none⟩) b.length cap'] w (DivPost B x y w) := by
  have hlc := ha.len_cap
  have hlc' := hb.len_cap
  unfold maxLen at hlc hlc'
  have hpa := pa.val
  have hpb := pb.val
  have hb1 := pv_two18 pb.lt hlb
  have HS := Lib.hid (short_yes B g' cap' b w hb hlb pb.lt)
  have HD := Lib.hid (fun wx (hw : Below w.heap.size w wx) => divideShort_any B g cap a (pv b) wx (ha.below hw) pa.lt (by omega) (by omega) hla)
  have hm : x % y < y := Nat.mod_lt _ hy
  rw [hpa, hpb] at HD
  rw [hpb] at HS hb1
  obtain ⟨m, hme⟩ : ∃ m : Nat, m = x % y := ⟨_, rfl⟩
  rw [← hme] at HD hm
  have HM := Lib.hid hme
  have HBB := Lib.hid hB
  have HPB := Lib.hid pb
  clear ha hb pa pb hpa hpb hme hB
  go_enter Tryz.func181, Tryz.ntmps181
  go_wp2_with fail
  refine HS.out.mono ?_
  rintro e w1 ⟨rfl, hb1'⟩
  go_wp2_with fail
  refine (HD.out _ hb1').mono ?_
  rintro e w2 ⟨h, c, q, rfl, hq, hr, hb2⟩
  have hrt := Row.two w2 (m % 1000000000) (m / 1000000000)
  have e1 : ((m % 1000000000 : Nat) : Int) = (m : Int) % 1000000000 := by omega
  have e2 : ((m / 1000000000 : Nat) : Int) = (m : Int) / 1000000000 := by omega
  rw [e1, e2] at hrt
  have htr := trim_any w2.heap.size w2.heap.size 2 [m % 1000000000, m / 1000000000] _ hrt
  have h9r : lt9 [m % 1000000000, m / 1000000000] := by
    intro z hz; simp at hz; omega
  have hpr : pv [m % 1000000000, m / 1000000000] = m := by simp [pv]; omega
  have HT := Lib.hid htr
  have HRT := Lib.hid hrt
  have HQ := Lib.hid hq
  have HR := Lib.hid hr
  have H9R := Lib.hid h9r
  have HPR := Lib.hid hpr
  clear hq hr htr hrt e1 e2 h9r hpr
  go_wp2_with fail
  refine HT.out.mono ?_
  rintro e w3 ⟨rfl, rfl⟩
  go_wp2_with fail
  go_ret2
  have hbz : Below w2.heap.size w2 (w2.alloc (.cells #[.int .u64 ((m : Int) % 1000000000), .int .u64 ((m : Int) / 1000000000)] 135)) := (Below.refl _ _).alloc (Nat.le_refl _) _
  have hs2 : w.heap.size ≤ w2.heap.size := Nat.le_trans hb1'.size hb2.size
  refine ⟨_, _, q, trimP [m % 1000000000, m / 1000000000], rfl, HQ.out, ?_, .inr ⟨_, _, rfl, ((HR.out.mono (Nat.le_trans HBB.out hb1'.size)).below hbz)⟩, .inr ⟨_, _, rfl, ?_⟩, ((hb1'.trans (hb2.mono hb1'.size)).trans (hbz.mono hs2)).mono HBB.out⟩
  · have := Pcs.of_trim H9R.out
    rw [HPR.out] at this; rw [← HM.out]; exact this
  · have := HRT.out.take (trimP [m % 1000000000, m / 1000000000]).length (trimP_props _).2.2.2.1
    rw [← (trimP_props [m % 1000000000, m / 1000000000]).2.2.2.2] at this
    exact this.mono (Nat.le_trans HBB.out hs2)

set_option maxHeartbeats 800000 in
theorem divide_less (B g cap g' cap' : Nat) (a b : List Nat) (x y : Nat) (w : World) (ha : Row w B g cap a) (hb : Row w B g' cap' b) (pa : Pcs a x) (pb : Pcs b y) (hlb : 2 < b.length) (hab : a.length < b.length) (_hB : B ≤ w.heap.size) :
    Calls Tryz.prog 181 #[.slice (some ⟨g, 0, none⟩) a.length cap, .slice (some ⟨g', 0, none⟩) b.length cap'] w (DivPost B x y w) := by
  have hlc := ha.len_cap
  have hlc' := hb.len_cap
  unfold maxLen at hlc hlc'
  have hlt : x < y := by
    rw [← pa.val, ← pb.val]
    have h1 := top_big pb.top (by intro e; rw [e] at hab; simp at hab)
    have h3 := pv_lt a pa.lt
    have h4 : 1000000000 ^ a.length ≤ 1000000000 ^ (b.length - 1) := Nat.pow_le_pow_right (by decide) (by omega)
    omega
  have HS := Lib.hid (short_no B g' cap' b w hb hlb)
  have HA := Lib.hid ha
  have HP := Lib.hid pa
  have HL := Lib.hid hlt
  have hdl : decide (a.length < b.length) = true := decide_eq_true hab
  clear ha hb pa pb hlt
  go_enter Tryz.func181, Tryz.ntmps181
  go_wp2_with fail
  refine HS.out.mono ?_
  rintro e w1 ⟨rfl, rfl⟩
  go_wp2_with fail
  go_ret2
  refine ⟨_, _, [], a, rfl, ?_, ?_, .inl ⟨rfl, rfl⟩, .inr ⟨_, _, rfl, HA.out⟩, Below.refl _ _⟩
  · rw [Nat.div_eq_of_lt HL.out]; exact Pcs.nil
  · rw [Nat.mod_eq_of_lt HL.out]; exact HP.out

set_option maxHeartbeats 1600000 in
set_option maxRecDepth 100000 in
theorem divide_long (B g cap g' cap' : Nat) (a b : List Nat) (x y : Nat) (w : World) (ha : Row w B g cap a) (hb : Row w B g' cap' b) (hgg : g' ≠ g) (pa : Pcs a x) (pb : Pcs b y) (hla : a.length ≤ 200000) (hlb : 2 < b.length) (hab : b.length ≤ a.length) (hB : B ≤ w.heap.size) :
    Calls Tryz.prog 181 #[.slice (some ⟨g, 0, none⟩) a.length cap, .slice (some ⟨g', 0, none⟩) b.length cap'] w (DivPost B x y w) := by
  have hlc := ha.len_cap
  have hlc' := hb.len_cap
  unfold maxLen at hlc hlc'
  obtain ⟨i0, hi, hz0, hz1, hz2⟩ := info_parts info64
  have HS := Lib.hid (short_no B g' cap' b w hb hlb)
  have HA := Lib.hid ha
  have HBR := Lib.hid hb
  have HPA := Lib.hid pa
  have HPB := Lib.hid pb
  have HG := Lib.hid hgg
  have hdl : decide (a.length < b.length) = false := decide_eq_false (by omega)
  obtain ⟨n, hn⟩ : ∃ n : Nat, n = a.length - b.length + 1 := ⟨_, rfl⟩
  have hn1 : n + b.length = a.length + 1 := by omega
  have HN := Lib.hid hn1
  have hsum : (a.length : Int) - (b.length : Int) + 1 = (n : Int) := by omega
  have hnb : n ≤ 200001 := by omega
  have hwr : IntKind.i64.wrap ((a.length : Int) - (b.length : Int) + 1) = (n : Int) := by rw [IntWalk.i64_in _ (by omega)]; exact hsum
  clear ha hb pa pb hgg hn hn1
  go_enter Tryz.func181, Tryz.ntmps181
  go_wp2_with fail
  refine HS.out.mono ?_
  rintro e w1 ⟨rfl, rfl⟩
  go_wp2_with (at_make; refine wpList_make_full _ rfl _ _ 161 rfl w.heap.size 135 i0 (.int .u64 0) 1 Tryz.underlying161 hi hz0 hz1 .i64 .i64 _ _ n rfl rfl (by omega) (by omega) (by rw [hz2]; omega) (by unfold maxLen; omega) (Nat.le_refl _) ?_; intro w0 hown0 hgrow0)
  have hbel0 : Below w.heap.size w w0 := (Below.refl _ _).grown hgrow0 (Nat.le_refl _) (by intro k hk; cases hk)
  have hrow0 := Row.made hown0
  rw [show z0 n [] = List.replicate n 0 by simp [z0]] at hrow0
  have HR := Lib.hid (reduce_quot B g cap g' cap' w.heap.size n n a b w0 (HA.out.below hbel0) (HBR.out.below hbel0) (hrow0.mono hB) HG.out (by have := HA.out.lt; omega) (by have := HBR.out.lt; omega) HN.out hab (by omega) HPA.out.lt HPB.out.lt HPB.out.top hla (Nat.le_trans hB hbel0.size))
  have HB0 := Lib.hid hbel0
  clear hown0 hgrow0 hbel0 hrow0 hsum hwr
  go_wp2_with fail
  refine HR.out.mono ?_
  rintro e w2 ⟨g1, cap1, p, q, rfl, hp, hq9, hql, hqv, hrp, hrq, hb2⟩
  have htr := trim_any B w.heap.size n q w2 hrq
  rw [hql] at htr
  have HT := Lib.hid htr
  have hpc := Pcs.of_trim hq9
  rw [hqv, HPA.out.val, HPB.out.val] at hpc
  rw [HPA.out.val, HPB.out.val] at hp
  have htk := hrq.take (trimP q).length (trimP_props _).2.2.2.1
  rw [← (trimP_props q).2.2.2.2] at htk
  have HF := Lib.hid (show Pcs (trimP q) (x / y) ∧ Pcs p (x % y) ∧ Row w2 B w.heap.size n (trimP q) ∧ Row w2 B g1 cap1 p ∧ Below B w w2 from ⟨hpc, hp, htk, hrp, (HB0.out.mono hB).trans hb2⟩)
  clear hp hq9 hql hqv hrp hrq hb2 htr hpc htk
  go_wp2_with fail
  refine HT.out.mono ?_
  rintro e w3 ⟨rfl, rfl⟩
  go_wp2_with fail
  go_ret2
  exact ⟨_, _, trimP q, p, rfl, HF.out.1, HF.out.2.1, .inr ⟨_, _, rfl, HF.out.2.2.1⟩, .inr ⟨_, _, rfl, HF.out.2.2.2.1⟩, HF.out.2.2.2.2⟩

theorem divide_any (B g cap g' cap' : Nat) (a b : List Nat) (x y : Nat) (w : World) (ha : Row w B g cap a) (hb : Row w B g' cap' b) (hgg : g' ≠ g) (pa : Pcs a x) (pb : Pcs b y) (hla : a.length ≤ 200000) (hy : 0 < y) (hB : B ≤ w.heap.size) :
    Calls Tryz.prog 181 #[.slice (some ⟨g, 0, none⟩) a.length cap, .slice (some ⟨g', 0, none⟩) b.length cap'] w (DivPost B x y w) := by
  by_cases h2 : b.length ≤ 2
  · exact divide_short B g cap g' cap' a b x y w ha hb pa pb hla h2 hy hB
  · by_cases hab : a.length < b.length
    · exact divide_less B g cap g' cap' a b x y w ha hb pa pb (by omega) hab hB
    · exact divide_long B g cap g' cap' a b x y w ha hb hgg pa pb hla (by omega) (by omega) hB
end Go.Proofs.YtgkfdgdlmpggpaaGreatDoor

namespace Go.Proofs.YtgkfdgdlmpggpaaGreatDoor
open Go.RowKit

set_option maxRecDepth 100000 in
theorem known_divmod (w : World) (hs : Std w) :
    Calls Tryz.prog 147 #[.string ⟨#[49, 48, 48, 48, 48, 48, 48, 48, 48, 48, 48, 48, 48, 48, 48, 48, 48, 48, 48, 48, 48, 48]⟩, .string ⟨#[55]⟩] w fun e w' => e = .returned (.tuple #[.string ⟨#[49, 52, 50, 56, 53, 55, 49, 52, 50, 56, 53, 55, 49, 52, 50, 56, 53, 55, 49, 52, 50]⟩, .string ⟨#[54]⟩, .int .i64 0]) ∧ Below w.heap.size w w' := by
  have e1 : (⟨#[49, 48, 48, 48, 48, 48, 48, 48, 48, 48, 48, 48, 48, 48, 48, 48, 48, 48, 48, 48, 48, 48]⟩ : ByteArray) = str 1000000000000000000000 := str_eq _ (by decide +kernel) (by decide +kernel)
  have e2 : (⟨#[55]⟩ : ByteArray) = str 7 := str_eq _ (by decide +kernel) (by decide +kernel)
  have e3 : (⟨#[49, 52, 50, 56, 53, 55, 49, 52, 50, 56, 53, 55, 49, 52, 50, 56, 53, 55, 49, 52, 50]⟩ : ByteArray) = str (1000000000000000000000 / 7) := str_eq _ (by decide +kernel) (by decide +kernel)
  have e4 : (⟨#[54]⟩ : ByteArray) = str (1000000000000000000000 % 7) := str_eq _ (by decide +kernel) (by decide +kernel)
  rw [e1, e2, e3, e4]
  exact divmod_small 1000000000000000000000 7 w hs (Nat.le_trans (str_big (n := 22) (by decide) (by decide)) (by decide)) (by decide) (by decide) (by decide)

set_option maxRecDepth 100000 in
theorem known_small (w : World) (hs : Std w) :
    Calls Tryz.prog 157 #[.string ⟨#[49, 56, 52, 52, 54, 55, 52, 52, 48, 55, 51, 55, 48, 57, 53, 53, 49, 54, 49, 54]⟩] w fun e w' => e = .returned (.tuple #[.int .u64 0, .bool false]) ∧ Below w.heap.size w w' := by
  have e1 : (⟨#[49, 56, 52, 52, 54, 55, 52, 52, 48, 55, 51, 55, 48, 57, 53, 53, 49, 54, 49, 54]⟩ : ByteArray) = str 18446744073709551616 := str_eq _ (by decide +kernel) (by decide +kernel)
  rw [e1]
  exact small_no 18446744073709551616 (by decide) w hs




theorem known_007 (w : World) :
    Calls Tryz.prog 150 #[.string ⟨#[48, 48, 55]⟩] w fun e w' => e = .returned (.bool false) ∧ w = w' :=
  canonical_any ⟨#[48, 48, 55]⟩ w (by decide)

end Go.Proofs.YtgkfdgdlmpggpaaGreatDoor

namespace Go.Proofs.YtgkfdgdlmpggpaaGreatDoor
open Go.RowKit

theorem IsRow.len_bd {k : IntKind} {w : World} {a : Option Addr} {len cap : Nat} {zs : List Int} (h : IsRow k w a len cap zs) : len ≤ 9223372036854775807 := by
  rcases h with ⟨_, h, _⟩ | ⟨x, _, h2, h3, _⟩
  · omega
  · unfold maxLen at h3; omega
theorem size120 {n m : Nat} (h : n < 10 ^ (min m 120)) : (str n).size ≤ 120 :=
  str_big (Nat.lt_of_lt_of_le h (Nat.pow_le_pow_right (by decide) (Nat.min_le_right _ _))) (by decide)
theorem size_add {a b n m : Nat} (ha : (str a).size ≤ n) (hb : (str b).size ≤ m) : (str (a + b)).size ≤ n + m + 1 := by
  refine str_big ?_ (by omega)
  have h1 := lt_of_size ha
  have h2 := lt_of_size hb
  have h3 : 10 ^ n ≤ 10 ^ (n + m) := Nat.pow_le_pow_right (by decide) (by omega)
  have h4 : 10 ^ m ≤ 10 ^ (n + m) := Nat.pow_le_pow_right (by decide) (by omega)
  rw [Nat.pow_succ]; omega
theorem addTo {x y z : Nat} (h : x + y = z) (w : World) (hs : Std w) (hx : (str x).size ≤ 450000) (hy : (str y).size ≤ 450000) :
    Calls Tryz.prog 136 #[.string (str x), .string (str y)] w fun e w' => e = .returned (.string (str z)) ∧ Below w.heap.size w w' := by
  rw [← h]; exact addN_any x y w hs hx hy
theorem mulTo {x y z : Nat} (h : x * y = z) (w : World) (hs : Std w) (hx : (str x).size ≤ 450000) (hy : (str y).size ≤ 450000) :
    Calls Tryz.prog 140 #[.string (str x), .string (str y)] w fun e w' => e = .returned (.string (str z)) ∧ Below w.heap.size w w' := by
  rw [← h]; exact mul_any x y w hs hx hy
theorem subTo {x y z : Nat} (h : x = z + y) (w : World) (hs : Std w) (hx : (str x).size ≤ 450000) :
    Calls Tryz.prog 138 #[.string (str x), .string (str y)] w fun e w' => e = .returned (.tuple #[.string (str z), .int .i64 0]) ∧ Below w.heap.size w w' := by
  have := subN_yes x y w hs hx (by omega)
  rw [show x - y = z by omega] at this; exact this


end Go.Proofs.YtgkfdgdlmpggpaaGreatDoor

namespace Go.Proofs.YtgkfdgdlmpggpaaGreatDoor
open Go.RowKit

theorem take_le (l : List UInt8) (k : Nat) : val (l.take k) ≤ val l := by
  conv => rhs; rw [← List.take_append_drop k l]
  rw [val_append]
  have : val (l.take k) * 1 ≤ val (l.take k) * 10 ^ (l.drop k).length := Nat.mul_le_mul_left _ (Nat.pow_pos (by decide))
  omega
def maxU : ByteArray := ⟨#[49, 56, 52, 52, 54, 55, 52, 52, 48, 55, 51, 55, 48, 57, 53, 53, 49, 54, 49, 53]⟩
theorem maxU_eq : maxU = str 18446744073709551615 := str_eq _ (by decide +kernel) (by decide +kernel)



def zeros20 : Array Value := #[.int .u8 0, .int .u8 0, .int .u8 0, .int .u8 0, .int .u8 0, .int .u8 0, .int .u8 0, .int .u8 0, .int .u8 0, .int .u8 0, .int .u8 0, .int .u8 0, .int .u8 0, .int .u8 0, .int .u8 0, .int .u8 0, .int .u8 0, .int .u8 0, .int .u8 0, .int .u8 0]






theorem ld_dd {u j : Nat} (hu : u < 10 ^ (j + 1)) (h0 : j = 0 ∨ 0 < u / 10 ^ j) : ld u (j + 1) = Lib.decDigits u := by
  have hv : val (ld u (j + 1)) = u := by rw [ld_val, Nat.mod_eq_of_lt hu]
  have hd : u / 10 ^ j < 10 := by rw [Nat.div_lt_iff_lt_mul (Nat.pow_pos (by decide)), Nat.mul_comm, ← Nat.pow_succ]; exact hu
  have hc : canonL (ld u (j + 1)) = true := by
    unfold canonL
    rw [ld_all]
    rcases h0 with h0 | h0
    · subst h0
      have hu10 : u < 10 := by simpa using hu
      have e : ld u 1 = Lib.decDigits u := by
        rw [dd_small hu10]; simp [ld, Lib.dg, Nat.mod_eq_of_lt hu10]
      have := canon_dd u
      rw [← e] at this; unfold canonL at this
      simp only [Bool.and_eq_true] at this
      rw [this.1]; rfl
    · unfold headOk
      have hne : (Lib.dg u j == 48) = false := by
        rw [beq_eq_false_iff_ne]; intro e
        have := congrArg UInt8.toNat e
        rw [dg_nat, Nat.mod_eq_of_lt hd, show (48 : UInt8).toNat = 48 from rfl] at this; omega
      simp [ld, hne]
  rw [← dd_val hc, hv]

end Go.Proofs.YtgkfdgdlmpggpaaGreatDoor

namespace Go.Proofs.YtgkfdgdlmpggpaaGreatDoor
open Go.RowKit

theorem str_at (a q : Nat) (h : q < (str a).size) : ((str a)[q]'h) = Lib.dg a ((str a).size - 1 - q) := by
  rw [← at_list]
  simp only [str_list, Lib.decDigits_eq, List.getElem_map, List.getElem_range, str_size]


theorem drop_val {L : List UInt8} {k : Nat} (h : k < L.length) (h0 : L[k] = 48) : val (L.drop (k + 1)) = val (L.drop k) := by
  rw [List.drop_eq_getElem_cons h, h0, val_cons]; simp
theorem all_drop {L : List UInt8} (h : L.all isD = true) (k : Nat) : (L.drop k).all isD = true :=
  List.all_eq_true.2 fun x hx => List.all_eq_true.1 h x (List.mem_of_mem_drop hx)
theorem head_one (c : UInt8) : headOk [c] = true := by
  unfold headOk
  by_cases hc : c = 48
  · rw [hc]; rfl
  · simp
theorem head_cons {c : UInt8} {l : List UInt8} (hc : c ≠ 48) : headOk (c :: l) = true := by
  unfold headOk; simp [hc]
theorem drop_canon {L : List UInt8} {k : Nat} (h : L.all isD = true) (hk : k < L.length) (h0 : k + 1 = L.length ∨ L[k] ≠ 48) : canonL (L.drop k) = true := by
  unfold canonL
  rw [all_drop h k, List.drop_eq_getElem_cons hk]
  rcases h0 with h0 | h0
  · rw [List.drop_of_length_le (by omega), head_one]; rfl
  · rw [head_cons h0]; rfl


theorem mod_step (a k : Nat) : a % 10 ^ (k + 1) = a % 10 ^ k + 10 ^ k * (a / 10 ^ k % 10) := by rw [Nat.pow_succ, Nat.mod_mul]
theorem addR_step {S : List UInt8} {a b k c d : Nat} (hl : S.length = k) (h : val S + 10 ^ k * c = a % 10 ^ k + b % 10 ^ k) (hd : d = a / 10 ^ k % 10 + b / 10 ^ k % 10 + c) :
    val (UInt8.ofNat (48 + d % 10) :: S) + 10 ^ (k + 1) * (d / 10) = a % 10 ^ (k + 1) + b % 10 ^ (k + 1) := by
  have h1 : 10 ^ (k + 1) * (d / 10) + (d % 10) * 10 ^ k = 10 ^ k * d := by
    rw [Nat.pow_succ, Nat.mul_assoc, Nat.mul_comm (d % 10), ← Nat.mul_add, Nat.div_add_mod]
  have h2 : 10 ^ k * d = 10 ^ k * (a / 10 ^ k % 10) + 10 ^ k * (b / 10 ^ k % 10) + 10 ^ k * c := by rw [hd, Nat.mul_add, Nat.mul_add]
  rw [val_cons, ofNat_dig (Nat.mod_lt _ (by decide)), hl, mod_step, mod_step, show 48 + d % 10 - 48 = d % 10 by omega]
  omega
theorem all_cons' {S : List UInt8} {d : Nat} (h : S.all isD = true) (hd : d < 10) : (UInt8.ofNat (48 + d) :: S).all isD = true := by
  rw [List.all_cons, ofNat_isD hd, h]; rfl
theorem RowB.made {w : World} {B g n : Nat} (h : w.ownsRow B 5 1 (.slice (some ⟨g, 0, none⟩) n n) n (madeCells (Value.int .u8 0).cells (n * 1)).toList) : RowB w B g n n (dig0 n []) := by
  refine ⟨by rw [dig0_len]; simp, ?_⟩
  have e : c8 (dig0 n []) = (madeCells (Value.int .u8 0).cells (n * 1)).toList := by
    rw [show (Value.int .u8 0).cells = #[.int .u8 0] from rfl, toList_madeCells_one, Nat.mul_one]; simp [c8, dig0]
  rw [e]; exact h
theorem dig0_set' {N k : Nat} (S : List UInt8) (c : UInt8) (hk : k < N) : (dig0 (N - k) S).set (N - 1 - k) c = dig0 (N - (k + 1)) (c :: S) := by
  obtain ⟨q, hq⟩ : ∃ q, N = k + q + 1 := ⟨N - 1 - k, by omega⟩
  subst hq
  rw [show k + q + 1 - k = q + 1 by omega, show k + q + 1 - 1 - k = q by omega, show k + q + 1 - (k + 1) = q by omega, dig0_set]

end Go.Proofs.YtgkfdgdlmpggpaaGreatDoor

namespace Go.Proofs.YtgkfdgdlmpggpaaGreatDoor
open Go.RowKit

theorem minusR_step {S : List UInt8} {a b k c c' v : Nat} (hl : S.length = k) (hv9 : v < 10) (h : val S + b % 10 ^ k = a % 10 ^ k + 10 ^ k * c) (hv : v + b / 10 ^ k % 10 + c = a / 10 ^ k % 10 + 10 * c') :
    val (UInt8.ofNat (48 + v) :: S) + b % 10 ^ (k + 1) = a % 10 ^ (k + 1) + 10 ^ (k + 1) * c' := by
  have h1 : 10 ^ k * (v + b / 10 ^ k % 10 + c) = 10 ^ k * (a / 10 ^ k % 10 + 10 * c') := by rw [hv]
  have h2 : 10 ^ k * (v + b / 10 ^ k % 10 + c) = 10 ^ k * v + 10 ^ k * (b / 10 ^ k % 10) + 10 ^ k * c := by rw [Nat.mul_add, Nat.mul_add]
  have h3 : 10 ^ k * (a / 10 ^ k % 10 + 10 * c') = 10 ^ k * (a / 10 ^ k % 10) + 10 ^ (k + 1) * c' := by rw [Nat.mul_add, ← Nat.mul_assoc, ← Nat.pow_succ]
  rw [h2, h3] at h1
  rw [val_cons, ofNat_dig hv9, hl, mod_step, mod_step, show 48 + v - 48 = v by omega, Nat.mul_comm v]
  omega

end Go.Proofs.YtgkfdgdlmpggpaaGreatDoor

namespace Go.Proofs.YtgkfdgdlmpggpaaGreatDoor
open Go.RowKit



theorem size_pow_le {a s : Nat} (ha : (str a).size ≤ s) (n : Nat) : (str (a ^ n)).size ≤ s * n + 1 := by
  refine str_big ?_ (by omega)
  have h1 := lt_of_size ha
  have h2 : a ^ n ≤ (10 ^ s) ^ n := Nat.pow_le_pow_left (Nat.le_of_lt h1) n
  rw [← Nat.pow_mul] at h2
  rw [Nat.pow_succ]
  have : 0 < 10 ^ (s * n) := Nat.pow_pos (by decide)
  omega
theorem bits_bound' {z k s : Nat} (h : BitsOf z k) (hs : (str z).size ≤ s) : k ≤ 4 * s + 1 := by
  rcases h.2 with h0 | h0
  · omega
  · have h1 := lt_of_size hs
    have h2 : (10 : Nat) ^ s ≤ (2 ^ 4) ^ s := Nat.pow_le_pow_left (by decide) _
    rw [← Nat.pow_mul] at h2
    have h3 : 2 ^ (k - 1) < 2 ^ (4 * s) := by omega
    have := (Nat.pow_lt_pow_iff_right (a := 2) (by decide)).1 h3
    omega
theorem bits_bound {z k : Nat} (h : BitsOf z k) (hs : (str z).size ≤ 301) : k ≤ 1205 := bits_bound' h hs
theorem str0 : str 0 = ⟨#[48]⟩ := (str_eq 0 (by decide) (by decide)).symm
theorem str2 : str 2 = ⟨#[50]⟩ := (str_eq 2 (by decide) (by decide)).symm

end Go.Proofs.YtgkfdgdlmpggpaaGreatDoor

namespace Go.Proofs.YtgkfdgdlmpggpaaGreatDoor
open Go.RowKit

theorem sub_step_val (s : ByteArray) (i a : Nat) (h : i < s.size) (ha : a ≤ i) : val ((s.data.toList.take (i + 1)).drop a) = val ((s.data.toList.take i).drop a) * 10 + ((s[i]'h).toNat - 48) := by
  rw [List.take_succ_eq_append_getElem (by rw [len_list]; exact h), List.drop_append_of_le_length (by rw [List.length_take, len_list]; omega), val_snoc, at_list s i h]; omega
theorem sub_lt {s : ByteArray} (hd : s.data.toList.all isD = true) (i a : Nat) (hi : i ≤ s.size) : val ((s.data.toList.take i).drop a) < 10 ^ (i - a) := by
  have h1 := val_lt _ (all_sub hd a i)
  rw [List.length_drop, List.length_take, len_list, Nat.min_eq_left hi] at h1; exact h1

end Go.Proofs.YtgkfdgdlmpggpaaGreatDoor

namespace Go.Proofs.YtgkfdgdlmpggpaaGreatDoor
open Go.RowKit

theorem Row.drewN {w : World} {B g cap : Nat} {l : List Nat} (h : Row w B g cap l) (n : Nat) : Row (w.drewN n) B g cap l := h
theorem j0_set (m : Nat) (S : List UInt8) (c : UInt8) : (48 :: dig0 (m + 1) S).set (m + 1) c = 48 :: dig0 m (c :: S) := by
  rw [List.set_cons_succ, dig0_set]

theorem joinR_c0 {w : World} {B g N : Nat} (h : RowB w B g N N (dig0 N [])) (hN : 0 < N) : ∃ c0 : Int, w.cell? ⟨g, 0, none⟩ = some (.int .u8 c0) :=
  ⟨_, h.cell 0 (by rw [dig0_len]; simpa using hN)⟩

end Go.Proofs.YtgkfdgdlmpggpaaGreatDoor

namespace Go.Proofs.YtgkfdgdlmpggpaaGreatDoor
open Go.RowKit

theorem str1 : str 1 = ⟨#[49]⟩ := (str_eq 1 (by decide) (by decide)).symm
theorem is0 (a : Nat) : ((str a).toList == [48]) = decide (a = 0) := by
  have := str_beq a 0
  rw [str0, show (⟨#[48]⟩ : ByteArray).toList = [48] by rw [tl]] at this; exact this
theorem is1 (a : Nat) : ((str a).toList == [49]) = decide (a = 1) := by
  have := str_beq a 1
  rw [str1, show (⟨#[49]⟩ : ByteArray).toList = [49] by rw [tl]] at this; exact this
theorem size_small {a : Nat} (h : a ≤ 1) : (str a).size ≤ 1 := str_big (by omega) (by decide)
theorem pow_small {a n : Nat} (h : a ≤ 1) : a ^ n ≤ 1 := by
  rcases (show a = 0 ∨ a = 1 by omega) with rfl | rfl
  · cases n <;> simp
  · simp
theorem size_lower {v n : Nat} (h : 10 ^ n ≤ v) : n < (str v).size := by
  apply Nat.lt_of_not_le; intro hle
  have h1 := lt_of_size hle
  omega
theorem pow_big1 {a n q : Nat} (hq : (str a).size = q + 1) (ha : 0 < a) : q * n < (str (a ^ n)).size := by
  refine size_lower ?_
  have h1 := pow_nDigits_le ha
  rw [← str_size, hq] at h1
  rw [Nat.pow_mul]
  exact Nat.pow_le_pow_left h1 n
theorem pow_big2 {a n : Nat} (ha : 2 ≤ a) : n / 4 < (str (a ^ n)).size := by
  refine size_lower ?_
  have h1 : (10 : Nat) ^ (n / 4) ≤ (2 ^ 4) ^ (n / 4) := Nat.pow_le_pow_left (by decide) _
  rw [← Nat.pow_mul] at h1
  have h2 : (2 : Nat) ^ (4 * (n / 4)) ≤ 2 ^ n := Nat.pow_le_pow_right (by decide) (by omega)
  have h3 : 2 ^ n ≤ a ^ n := Nat.pow_le_pow_left ha n
  omega



theorem max_bound {q N S : Nat} (h1 : q * N < S) (h2 : N / 4 < S) (hq : q ≤ 19) (hS : S ≤ 20000) : max (wrap64 ((q : Int) * min (N : Int) 30000)) (min (N : Int) 100000 / 4) ≤ 20000 := by
  obtain ⟨m, hm, hm2, hm3⟩ : ∃ m : Nat, min (N : Int) 30000 = (m : Int) ∧ m ≤ N ∧ m ≤ 30000 := ⟨min N 30000, by omega, by omega, by omega⟩
  have h3 : q * m ≤ q * N := Nat.mul_le_mul_left q hm2
  have h4 : q * m ≤ 19 * 30000 := Nat.mul_le_mul hq hm3
  rw [hm, show ((q : Int) * (m : Int)) = ((q * m : Nat) : Int) by push_cast; rfl, show wrap64 ((q * m : Nat) : Int) = ((q * m : Nat) : Int) by unfold wrap64; omega]
  omega

end Go.Proofs.YtgkfdgdlmpggpaaGreatDoor

namespace Go.Proofs.YtgkfdgdlmpggpaaGreatDoor
open Go.RowKit

theorem dd_step (r d : Nat) (hr : 0 < r) (hd : d < 10) : Lib.decDigits (10 * r + d) = Lib.decDigits r ++ [UInt8.ofNat (48 + d)] := by
  rw [dd_big (by omega), show (10 * r + d) / 10 = r by omega, show (10 * r + d) % 10 = d by omega]
theorem str_data (a : Nat) : (str a).data.toList = Lib.decDigits a := str_list a
theorem canonL_str (a : Nat) : canonL (str a).data.toList = true := by rw [str_list]; exact canon_dd a
theorem app_str (r d : Nat) (hr : 0 < r) (hd : d < 10) : str r ++ str d = str (10 * r + d) := by
  have e : (str r ++ str d).data.toList = Lib.decDigits (10 * r + d) := by
    rw [dd_step r d hr hd, ← dd_small hd]
    simp [str_list]
  refine str_eq _ ?_ ?_
  · rw [e]; exact canon_dd _
  · rw [e]; exact val_dd _
theorem ext_one (a i : Nat) (h : i < (str a).size) : (str a).extract i (i + 1) = str (a / 10 ^ ((str a).size - 1 - i) % 10) := by
  have hl : i < (str a).data.toList.length := by rw [len_list]; exact h
  have e : ((str a).extract i (i + 1)).data.toList = Lib.decDigits (a / 10 ^ ((str a).size - 1 - i) % 10) := by
    rw [ext_list, List.take_succ_eq_append_getElem hl, List.drop_append_of_le_length (by rw [List.length_take]; omega), List.drop_of_length_le (by rw [List.length_take]; omega), List.nil_append, dd_small (Nat.mod_lt _ (by decide))]
    have h1 := str_at a i h
    rw [← at_list] at h1
    rw [h1]
    rfl
  refine str_eq _ ?_ ?_
  · rw [e]; exact canon_dd _
  · rw [e]; exact val_dd _
theorem RowB.below {w w' : World} {B g cap n : Nat} {l : List UInt8} (h : RowB w B g cap n l) (hb : Below w.heap.size w w') : RowB w' B g cap n l :=
  ⟨h.1, World.ownsRow.kept (row := none) h.2 ⟨hb.os, hb.tape, hb.output, hb.size, fun j hj _ => hb.block j hj⟩ (.inr (by simp [Value.ownBlock]))⟩
/-- digits, then zeros -/
def dz (S : List UInt8) (m : Nat) : List UInt8 := S ++ List.replicate m 0
theorem dz_set (S : List UInt8) (m : Nat) (c : UInt8) : (dz S (m + 1)).set S.length c = dz (S ++ [c]) m := by
  unfold dz
  rw [List.set_append_right _ _ (Nat.le_refl _), Nat.sub_self, List.replicate_succ, List.set_cons_zero]
  simp
theorem dz_len (S : List UInt8) (m : Nat) : (dz S m).length = S.length + m := by simp [dz]
theorem dz_nil (m : Nat) : dig0 m [] = dz [] m := by simp [dig0, dz]
theorem dz_zero (S : List UInt8) : dz S 0 = S := by simp [dz]
theorem all_snoc {S : List UInt8} {c : Nat} (h : S.all isD = true) (hc : c < 10) : (S ++ [UInt8.ofNat (48 + c)]).all isD = true := by
  rw [List.all_append, h]
  show (true && (isD (UInt8.ofNat (48 + c)) && true)) = true
  rw [ofNat_isD hc]; rfl
/-- one step of the division by hand -/
theorem long_step {A b d c x r : Nat} (hb : 0 < b) (hr : r = A % b) (h : c * b + x = 10 * r + d) (hx : x < b) : (10 * A + d) / b = 10 * (A / b) + c ∧ (10 * A + d) % b = x := by
  have h1 := Nat.div_add_mod A b
  rw [← hr] at h1
  have h2 : 10 * A + d = x + b * (10 * (A / b) + c) := by
    have : b * (10 * (A / b) + c) = 10 * (b * (A / b)) + c * b := by rw [Nat.mul_add, Nat.mul_left_comm, Nat.mul_comm c]
    omega
  rw [h2]
  exact ⟨by rw [Nat.add_mul_div_left _ _ hb, Nat.div_eq_of_lt hx, Nat.zero_add], by rw [Nat.add_mul_mod_self_left, Nat.mod_eq_of_lt hx]⟩


theorem cmp_ge {a b : Nat} : (0 ≤ cmpN a b) ↔ b ≤ a := by
  unfold cmpN
  by_cases h : a < b
  · rw [if_pos h]; constructor
    · intro h1; exact absurd h1 (by decide)
    · intro h1; omega
  · rw [if_neg h]
    constructor
    · intro _; omega
    · intro _; split <;> decide
theorem div_le9 {b c d r x : Nat} (h : c * b + x = 10 * r + d) (hx : b ≤ x) (hr : r < b) (hd : d < 10) : c < 9 := by
  apply Nat.lt_of_not_le; intro h9
  have : 9 * b ≤ c * b := Nat.mul_le_mul_right b h9
  omega
theorem size_x {b c d r x n : Nat} (h : c * b + x = 10 * r + d) (hr : r < b) (hd : d < 10) (hb : (str b).size ≤ n) : (str x).size ≤ n + 1 := by
  refine str_big ?_ (by omega)
  have h1 := lt_of_size hb
  have : 10 ^ (n + 1) = 10 * 10 ^ n := by rw [Nat.pow_succ, Nat.mul_comm]
  omega

end Go.Proofs.YtgkfdgdlmpggpaaGreatDoor
