/-
  divide for any numbers.
-/
import Derived.Test.YtfhmdlpjeiockaaDoorQuot
namespace Go.Proofs.YtfhmdlpjeiockaaDoor
open Go.RowKit

/-- a value is a row of the call's own, or nil -/
def OwnP (w : World) (B : Nat) (v : Value) (p : List Nat) : Prop := (p = [] ∧ v = .slice none 0 0) ∨ ∃ g cap, v = .slice (some ⟨g, 0, none⟩) p.length cap ∧ Row w B g cap p
theorem OwnP.below {w w' : World} {B : Nat} {v : Value} {p : List Nat} (h : OwnP w B v p) (hb : Below w.heap.size w w') : OwnP w' B v p := by
  rcases h with h | ⟨g, cap, e, hr⟩
  · exact .inl h
  · exact .inr ⟨g, cap, e, hr.below hb⟩
theorem pv_two18 {b : List Nat} (h : lt9 b) (hl : b.length ≤ 2) : pv b < 1000000000000000000 := by
  have h1 := pv_lt b h
  have h2 : 1000000000 ^ b.length ≤ 1000000000 ^ 2 := Nat.pow_le_pow_right (by decide) hl
  omega

/-- what divide leaves -/
def DivPost (B x y : Nat) (w : World) (e : Ending) (w' : World) : Prop := ∃ (v1 v2 : Value) (q r : List Nat), e = .returned (.tuple #[v1, v2]) ∧ Pcs q (x / y) ∧ Pcs r (x % y) ∧ OwnP w' B v1 q ∧ OwnP w' B v2 r ∧ Below B w w'

set_option maxHeartbeats 1600000 in
set_option maxRecDepth 100000 in
theorem divide_short (B g cap g' cap' : Nat) (a b : List Nat) (x y : Nat) (w : World) (ha : Row w B g cap a) (hb : Row w B g' cap' b) (pa : Pcs a x) (pb : Pcs b y) (hla : a.length ≤ 200000) (hlb : b.length ≤ 2) (hy : 0 < y) (hB : B ≤ w.heap.size) :
    Calls Tryd.prog 24 #[.slice (some ⟨g, 0, none⟩) a.length cap, .slice (some ⟨g', 0, none⟩) b.length cap'] w (DivPost B x y w) := by
  have hlc := ha.len_cap
  have hlc' := hb.len_cap
  unfold maxLen at hlc hlc'
  have hpa := pa.val
  have hpb := pb.val
  have hb1 := pv_two18 pb.lt hlb
  have HS := Lib.hid (short_yes B g' cap' b w hb hlb pb.lt)
  have HD := Lib.hid (fun wx (hw : Below w.heap.size w wx) => divideShort_any B g cap a (pv b) wx (ha.below hw) pa.lt (by omega) (by omega) hla)
  have hm : x % y < y := Nat.mod_lt _ hy
  rw [hpa, hpb] at HD
  rw [hpb] at HS hb1
  obtain ⟨m, hme⟩ : ∃ m : Nat, m = x % y := ⟨_, rfl⟩
  rw [← hme] at HD hm
  have HM := Lib.hid hme
  have HBB := Lib.hid hB
  have HPB := Lib.hid pb
  clear ha hb pa pb hpa hpb hme hB
  go_enter Tryd.func24, Tryd.ntmps24
  go_wp2_with fail
  refine HS.out.mono ?_
  rintro e w1 ⟨rfl, hb1'⟩
  go_wp2_with fail
  refine (HD.out _ hb1').mono ?_
  rintro e w2 ⟨h, c, q, rfl, hq, hr, hb2⟩
  have hrt := Row.two w2 (m % 1000000000) (m / 1000000000)
  have e1 : ((m % 1000000000 : Nat) : Int) = (m : Int) % 1000000000 := by omega
  have e2 : ((m / 1000000000 : Nat) : Int) = (m : Int) / 1000000000 := by omega
  rw [e1, e2] at hrt
  have htr := trim_any w2.heap.size w2.heap.size 2 [m % 1000000000, m / 1000000000] _ hrt
  have h9r : lt9 [m % 1000000000, m / 1000000000] := by
    intro z hz; simp at hz; omega
  have hpr : pv [m % 1000000000, m / 1000000000] = m := by simp [pv]; omega
  have HT := Lib.hid htr
  have HRT := Lib.hid hrt
  have HQ := Lib.hid hq
  have HR := Lib.hid hr
  have H9R := Lib.hid h9r
  have HPR := Lib.hid hpr
  clear hq hr htr hrt e1 e2 h9r hpr
  go_wp2_with fail
  refine HT.out.mono ?_
  rintro e w3 ⟨rfl, rfl⟩
  go_wp2_with fail
  go_ret2
  have hbz : Below w2.heap.size w2 (w2.alloc (.cells #[.int .u64 ((m : Int) % 1000000000), .int .u64 ((m : Int) / 1000000000)] 37)) := (Below.refl _ _).alloc (Nat.le_refl _) _
  have hs2 : w.heap.size ≤ w2.heap.size := Nat.le_trans hb1'.size hb2.size
  refine ⟨_, _, q, trimP [m % 1000000000, m / 1000000000], rfl, HQ.out, ?_, .inr ⟨_, _, rfl, ((HR.out.mono (Nat.le_trans HBB.out hb1'.size)).below hbz)⟩, .inr ⟨_, _, rfl, ?_⟩, ((hb1'.trans (hb2.mono hb1'.size)).trans (hbz.mono hs2)).mono HBB.out⟩
  · have := Pcs.of_trim H9R.out
    rw [HPR.out] at this; rw [← HM.out]; exact this
  · have := HRT.out.take (trimP [m % 1000000000, m / 1000000000]).length (trimP_props _).2.2.2.1
    rw [← (trimP_props [m % 1000000000, m / 1000000000]).2.2.2.2] at this
    exact this.mono (Nat.le_trans HBB.out hs2)

set_option maxHeartbeats 800000 in
theorem divide_less (B g cap g' cap' : Nat) (a b : List Nat) (x y : Nat) (w : World) (ha : Row w B g cap a) (hb : Row w B g' cap' b) (pa : Pcs a x) (pb : Pcs b y) (hlb : 2 < b.length) (hab : a.length < b.length) (_hB : B ≤ w.heap.size) :
    Calls Tryd.prog 24 #[.slice (some ⟨g, 0, none⟩) a.length cap, .slice (some ⟨g', 0, none⟩) b.length cap'] w (DivPost B x y w) := by
  have hlc := ha.len_cap
  have hlc' := hb.len_cap
  unfold maxLen at hlc hlc'
  have hlt : x < y := by
    rw [← pa.val, ← pb.val]
    have h1 := top_big pb.top (by intro e; rw [e] at hab; simp at hab)
    have h3 := pv_lt a pa.lt
    have h4 : 1000000000 ^ a.length ≤ 1000000000 ^ (b.length - 1) := Nat.pow_le_pow_right (by decide) (by omega)
    omega
  have HS := Lib.hid (short_no B g' cap' b w hb hlb)
  have HA := Lib.hid ha
  have HP := Lib.hid pa
  have HL := Lib.hid hlt
  have hdl : decide (a.length < b.length) = true := decide_eq_true hab
  clear ha hb pa pb hlt
  go_enter Tryd.func24, Tryd.ntmps24
  go_wp2_with fail
  refine HS.out.mono ?_
  rintro e w1 ⟨rfl, rfl⟩
  go_wp2_with fail
  go_ret2
  refine ⟨_, _, [], a, rfl, ?_, ?_, .inl ⟨rfl, rfl⟩, .inr ⟨_, _, rfl, HA.out⟩, Below.refl _ _⟩
  · rw [Nat.div_eq_of_lt HL.out]; exact Pcs.nil
  · rw [Nat.mod_eq_of_lt HL.out]; exact HP.out

set_option maxHeartbeats 1600000 in
set_option maxRecDepth 100000 in
theorem divide_long (B g cap g' cap' : Nat) (a b : List Nat) (x y : Nat) (w : World) (ha : Row w B g cap a) (hb : Row w B g' cap' b) (hgg : g' ≠ g) (pa : Pcs a x) (pb : Pcs b y) (hla : a.length ≤ 200000) (hlb : 2 < b.length) (hab : b.length ≤ a.length) (hB : B ≤ w.heap.size) :
    Calls Tryd.prog 24 #[.slice (some ⟨g, 0, none⟩) a.length cap, .slice (some ⟨g', 0, none⟩) b.length cap'] w (DivPost B x y w) := by
  have hlc := ha.len_cap
  have hlc' := hb.len_cap
  unfold maxLen at hlc hlc'
  obtain ⟨i0, hi, hz0, hz1, hz2⟩ := info_parts info64
  have HS := Lib.hid (short_no B g' cap' b w hb hlb)
  have HA := Lib.hid ha
  have HBR := Lib.hid hb
  have HPA := Lib.hid pa
  have HPB := Lib.hid pb
  have HG := Lib.hid hgg
  have hdl : decide (a.length < b.length) = false := decide_eq_false (by omega)
  obtain ⟨n, hn⟩ : ∃ n : Nat, n = a.length - b.length + 1 := ⟨_, rfl⟩
  have hn1 : n + b.length = a.length + 1 := by omega
  have HN := Lib.hid hn1
  have hsum : (a.length : Int) - (b.length : Int) + 1 = (n : Int) := by omega
  have hnb : n ≤ 200001 := by omega
  have hwr : IntKind.i64.wrap ((a.length : Int) - (b.length : Int) + 1) = (n : Int) := by rw [IntWalk.i64_in _ (by omega)]; exact hsum
  clear ha hb pa pb hgg hn hn1
  go_enter Tryd.func24, Tryd.ntmps24
  go_wp2_with fail
  refine HS.out.mono ?_
  rintro e w1 ⟨rfl, rfl⟩
  go_wp2_with (at_make; refine wpList_make_full _ rfl _ _ 47 rfl w.heap.size 37 i0 (.int .u64 0) 1 Tryd.underlying47 hi hz0 hz1 .i64 .i64 _ _ n rfl rfl (by omega) (by omega) (by rw [hz2]; omega) (by unfold maxLen; omega) (Nat.le_refl _) ?_; intro w0 hown0 hgrow0)
  have hbel0 : Below w.heap.size w w0 := (Below.refl _ _).grown hgrow0 (Nat.le_refl _) (by intro k hk; cases hk)
  have hrow0 := Row.made hown0
  rw [show z0 n [] = List.replicate n 0 by simp [z0]] at hrow0
  have HR := Lib.hid (reduce_quot B g cap g' cap' w.heap.size n n a b w0 (HA.out.below hbel0) (HBR.out.below hbel0) (hrow0.mono hB) HG.out (by have := HA.out.lt; omega) (by have := HBR.out.lt; omega) HN.out hab (by omega) HPA.out.lt HPB.out.lt HPB.out.top hla (Nat.le_trans hB hbel0.size))
  have HB0 := Lib.hid hbel0
  clear hown0 hgrow0 hbel0 hrow0 hsum hwr
  go_wp2_with fail
  refine HR.out.mono ?_
  rintro e w2 ⟨g1, cap1, p, q, rfl, hp, hq9, hql, hqv, hrp, hrq, hb2⟩
  have htr := trim_any B w.heap.size n q w2 hrq
  rw [hql] at htr
  have HT := Lib.hid htr
  have hpc := Pcs.of_trim hq9
  rw [hqv, HPA.out.val, HPB.out.val] at hpc
  rw [HPA.out.val, HPB.out.val] at hp
  have htk := hrq.take (trimP q).length (trimP_props _).2.2.2.1
  rw [← (trimP_props q).2.2.2.2] at htk
  have HF := Lib.hid (show Pcs (trimP q) (x / y) ∧ Pcs p (x % y) ∧ Row w2 B w.heap.size n (trimP q) ∧ Row w2 B g1 cap1 p ∧ Below B w w2 from ⟨hpc, hp, htk, hrp, (HB0.out.mono hB).trans hb2⟩)
  clear hp hq9 hql hqv hrp hrq hb2 htr hpc htk
  go_wp2_with fail
  refine HT.out.mono ?_
  rintro e w3 ⟨rfl, rfl⟩
  go_wp2_with fail
  go_ret2
  exact ⟨_, _, trimP q, p, rfl, HF.out.1, HF.out.2.1, .inr ⟨_, _, rfl, HF.out.2.2.1⟩, .inr ⟨_, _, rfl, HF.out.2.2.2.1⟩, HF.out.2.2.2.2⟩

theorem divide_any (B g cap g' cap' : Nat) (a b : List Nat) (x y : Nat) (w : World) (ha : Row w B g cap a) (hb : Row w B g' cap' b) (hgg : g' ≠ g) (pa : Pcs a x) (pb : Pcs b y) (hla : a.length ≤ 200000) (hy : 0 < y) (hB : B ≤ w.heap.size) :
    Calls Tryd.prog 24 #[.slice (some ⟨g, 0, none⟩) a.length cap, .slice (some ⟨g', 0, none⟩) b.length cap'] w (DivPost B x y w) := by
  by_cases h2 : b.length ≤ 2
  · exact divide_short B g cap g' cap' a b x y w ha hb pa pb hla h2 hy hB
  · by_cases hab : a.length < b.length
    · exact divide_less B g cap g' cap' a b x y w ha hb pa pb (by omega) hab hB
    · exact divide_long B g cap g' cap' a b x y w ha hb hgg pa pb hla (by omega) (by omega) hB
end Go.Proofs.YtfhmdlpjeiockaaDoor
