/-
  Texts of one seat, joined: YNew YOf YParP ZPlus ZSplit ZJoin YPl4 YPlP YPlQ.
-/
import Derived.Test.YtdgbplppabalgaaGreatDoorJ14
import Derived.Test.YtdgbplppabalgaaGreatDoorJ12
import Derived.Lib.IndexMore
import Derived.Lib.IndexAny
import Derived.Lib.Atoi
import Derived.Lib.Repeat
import Derived.Test.YtdgbplppabalgaaGreatDoorJ13
namespace Go.Proofs.YtdgbplppabalgaaGreatDoor
open Go.RowKit

theorem zero_tlF (z : Int) (h : (str z.natAbs).size ≤ 1000000) : ((zS z).toList == [48]) = decide (z = 0) := (zF z h).zero
set_option maxHeartbeats 800000 in
theorem newF_zero (n : Int) (w : World) :
    Calls Tryz.prog 21 #[.string (zS n), .string (zS 0)] w fun e w' => e = .returned (.tuple #[ratV ⟨#[]⟩ ⟨#[]⟩, .int .i64 17]) ∧ Below w.heap.size w w' := by
  have hz : ((zS 0).toList == [48]) = true := zero_tlF 0 (Nat.le_trans (str_big (n := 1) (by decide) (by decide)) (by decide))
  obtain ⟨s, hs⟩ : ∃ s, s = zS n := ⟨_, rfl⟩
  obtain ⟨t, ht⟩ : ∃ s, s = zS 0 := ⟨_, rfl⟩
  rw [← hs]
  rw [← ht] at hz ⊢
  have HB := Lib.hid ((Below.refl _ w).alloc (Nat.le_refl _) (.cells #[.string ⟨#[]⟩, .string ⟨#[]⟩] 24))
  clear hs ht
  go_enter Tryz.func21, Tryz.ntmps21
  go_wp2_with fail
  (try simp only [Exit.inBlock, Exit.then])
  refine bodyPost_ret (v := .tuple #[ratV ⟨#[]⟩ ⟨#[]⟩, .int .i64 17]) ?_ rfl ⟨rfl, HB.out⟩
  rw [results_cell_tmp rfl]
  go_simp
set_option maxHeartbeats 1600000 in
theorem newF_pos (n d : Int) (w : World) (hs : Std w) (h0 : 0 < d) (hn : (str n.natAbs).size ≤ 400000) (hd : (str d.natAbs).size ≤ 400000) :
    Calls Tryz.prog 21 #[.string (zS n), .string (zS d)] w fun e w' => e = .returned (.tuple #[ratV (zS (lowN n d.natAbs)) (str (lowD n d.natAbs)), .int .i64 0]) ∧ Below w.heap.size w w' := by
  have hz := zero_tlF d (by omega)
  rw [decide_eq_false (by omega)] at hz
  have hsg := fun wx => sign_any d wx (by omega)
  rw [sgnI_pos h0] at hsg
  have HSG := Lib.hid hsg
  have HL := Lib.hid (fun wx hw => lowestF_any n d wx hw h0 hn hd)
  have HS := Lib.hid hs
  obtain ⟨s, hs2⟩ : ∃ s, s = zS n := ⟨_, rfl⟩
  obtain ⟨t, ht⟩ : ∃ s, s = zS d := ⟨_, rfl⟩
  obtain ⟨ps, hps⟩ : ∃ s, s = zS (lowN n d.natAbs) := ⟨_, rfl⟩
  obtain ⟨qs, hqs⟩ : ∃ s, s = str (lowD n d.natAbs) := ⟨_, rfl⟩
  rw [← hs2, ← ht, ← hps, ← hqs] at HL
  rw [← ht] at HSG hz
  rw [← hs2, ← ht, ← hps, ← hqs]
  clear hs2 ht hps hqs hn hd h0 hs hsg
  go_enter Tryz.func21, Tryz.ntmps21
  go_wp2_with fail
  obtain ⟨W0, hW0⟩ : ∃ W0, W0 = w.alloc (.cells #[.string ⟨#[]⟩, .string ⟨#[]⟩] 24) := ⟨_, rfl⟩
  have HB := Lib.hid (Bz.new w)
  rw [← hW0] at HB ⊢
  clear hW0
  refine (HSG.out _).mono ?_
  rintro e w1 ⟨rfl, rfl⟩
  go_wp2_with fail
  refine (HL.out _ (HS.out.below HB.out.below)).mono ?_
  rintro e w2 ⟨rfl, h2⟩
  have Z2 := Lib.hid (HB.out.to h2)
  clear h2
  have hf0 := Z2.out.res.free 0
  have he0 := Z2.out.res.c0
  have he1 := Z2.out.res.c1
  have hS0 := Z2.out.res.set0 (.string ps)
  have hS1 := hS0.set1 (.string qs)
  have hf1 := hS0.free 1
  have hg1 := hS0.c1
  have hk0 := hS1.c0
  have hk1 := hS1.c1
  have HBE := Lib.hid ((Z2.out.below.setCell (p := ⟨w.heap.size, 0, none⟩) (Nat.le_refl _) (.string ps)).setCell (p := ⟨w.heap.size, 1, none⟩) (Nat.le_refl _) (.string qs))
  clear hS0 hS1
  go_wp2_with fail
  (try simp only [Exit.inBlock, Exit.then])
  refine bodyPost_ret (v := .tuple #[ratV ps qs, .int .i64 0]) ?_ rfl ⟨rfl, HBE.out⟩
  rw [results_cell_tmp rfl]
  go_simp
set_option maxHeartbeats 1600000 in
theorem newF_neg (n d : Int) (w : World) (hs : Std w) (h0 : d < 0) (hn : (str n.natAbs).size ≤ 400000) (hd : (str d.natAbs).size ≤ 400000) :
    Calls Tryz.prog 21 #[.string (zS n), .string (zS d)] w fun e w' => e = .returned (.tuple #[ratV (zS (lowN (-n) d.natAbs)) (str (lowD (-n) d.natAbs)), .int .i64 0]) ∧ Below w.heap.size w w' := by
  have hz := zero_tlF d (by omega)
  rw [decide_eq_false (by omega)] at hz
  have hsg := fun wx => sign_any d wx (by omega)
  rw [sgnI_neg' h0] at hsg
  have HSG := Lib.hid hsg
  have HN1 := Lib.hid (fun wx => neg_any n wx (by omega))
  have HN2 := Lib.hid (fun wx => neg_any d wx (by omega))
  have hl := fun wx hw => lowestF_any (-n) (-d) wx hw (by omega) (by rw [Int.natAbs_neg]; exact hn) (by rw [Int.natAbs_neg]; exact hd)
  rw [Int.natAbs_neg] at hl
  have HL := Lib.hid hl
  have HS := Lib.hid hs
  obtain ⟨s, hs2⟩ : ∃ s, s = zS n := ⟨_, rfl⟩
  obtain ⟨t, ht⟩ : ∃ s, s = zS d := ⟨_, rfl⟩
  obtain ⟨s', hs3⟩ : ∃ s, s = zS (-n) := ⟨_, rfl⟩
  obtain ⟨t', ht3⟩ : ∃ s, s = zS (-d) := ⟨_, rfl⟩
  obtain ⟨ps, hps⟩ : ∃ s, s = zS (lowN (-n) d.natAbs) := ⟨_, rfl⟩
  obtain ⟨qs, hqs⟩ : ∃ s, s = str (lowD (-n) d.natAbs) := ⟨_, rfl⟩
  rw [← hs3, ← ht3, ← hps, ← hqs] at HL
  rw [← hs2, ← hs3] at HN1
  rw [← ht, ← ht3] at HN2
  rw [← ht] at HSG hz
  rw [← hs2, ← ht, ← hps, ← hqs]
  clear hs2 ht hs3 ht3 hps hqs hn hd h0 hs hsg hl
  go_enter Tryz.func21, Tryz.ntmps21
  go_wp2_with fail
  obtain ⟨W0, hW0⟩ : ∃ W0, W0 = w.alloc (.cells #[.string ⟨#[]⟩, .string ⟨#[]⟩] 24) := ⟨_, rfl⟩
  have HB := Lib.hid (Bz.new w)
  rw [← hW0] at HB ⊢
  clear hW0
  refine (HSG.out _).mono ?_
  rintro e w1 ⟨rfl, rfl⟩
  go_wp2_with fail
  refine (HN1.out _).mono ?_
  rintro e w2 ⟨rfl, h2⟩
  have Z2 := Lib.hid (HB.out.to h2)
  clear h2
  go_wp2_with fail
  refine (HN2.out _).mono ?_
  rintro e w3 ⟨rfl, h3⟩
  have Z3 := Lib.hid (Z2.out.to h3)
  clear h3
  go_wp2_with fail
  refine (HL.out _ (HS.out.below Z3.out.below)).mono ?_
  rintro e w4 ⟨rfl, h4⟩
  have Z4 := Lib.hid (Z3.out.to h4)
  clear h4
  have hf0 := Z4.out.res.free 0
  have he0 := Z4.out.res.c0
  have he1 := Z4.out.res.c1
  have hS0 := Z4.out.res.set0 (.string ps)
  have hS1 := hS0.set1 (.string qs)
  have hf1 := hS0.free 1
  have hg1 := hS0.c1
  have hk0 := hS1.c0
  have hk1 := hS1.c1
  have HBE := Lib.hid ((Z4.out.below.setCell (p := ⟨w.heap.size, 0, none⟩) (Nat.le_refl _) (.string ps)).setCell (p := ⟨w.heap.size, 1, none⟩) (Nat.le_refl _) (.string qs))
  clear hS0 hS1
  go_wp2_with fail
  (try simp only [Exit.inBlock, Exit.then])
  refine bodyPost_ret (v := .tuple #[ratV ps qs, .int .i64 0]) ?_ rfl ⟨rfl, HBE.out⟩
  rw [results_cell_tmp rfl]
  go_simp
end Go.Proofs.YtdgbplppabalgaaGreatDoor

namespace Go.Proofs.YtdgbplppabalgaaGreatDoor
open Go.RowKit

def newN (n d : Int) : Int := if d < 0 then lowN (-n) d.natAbs else lowN n d.natAbs
def newD (n d : Int) : Nat := if d < 0 then lowD (-n) d.natAbs else lowD n d.natAbs
/-- what New answers, and its error -/
def newS (n d : Int) : ByteArray := if d = 0 then ⟨#[]⟩ else zS (newN n d)
def newT (n d : Int) : ByteArray := if d = 0 then ⟨#[]⟩ else str (newD n d)
def newE (d : Int) : Int := if d = 0 then 17 else 0
theorem newF_any (n d : Int) (w : World) (hs : Std w) (hn : (str n.natAbs).size ≤ 400000) (hd : (str d.natAbs).size ≤ 400000) :
    Calls Tryz.prog 21 #[.string (zS n), .string (zS d)] w fun e w' => e = .returned (.tuple #[ratV (newS n d) (newT n d), .int .i64 (newE d)]) ∧ Below w.heap.size w w' := by
  rcases (by omega : d = 0 ∨ d < 0 ∨ 0 < d) with h | h | h
  · subst h; exact newF_zero n w
  · have e1 : newS n d = zS (lowN (-n) d.natAbs) := by unfold newS newN; rw [if_neg (by omega), if_pos h]
    have e2 : newT n d = str (lowD (-n) d.natAbs) := by unfold newT newD; rw [if_neg (by omega), if_pos h]
    have e3 : newE d = 0 := by unfold newE; rw [if_neg (by omega)]
    rw [e1, e2, e3]; exact newF_neg n d w hs h hn hd
  · have e1 : newS n d = zS (lowN n d.natAbs) := by unfold newS newN; rw [if_neg (by omega), if_neg (by omega)]
    have e2 : newT n d = str (lowD n d.natAbs) := by unfold newT newD; rw [if_neg (by omega), if_neg (by omega)]
    have e3 : newE d = 0 := by unfold newE; rw [if_neg (by omega)]
    rw [e1, e2, e3]; exact newF_pos n d w hs h hn hd
set_option maxHeartbeats 1600000 in
theorem ofF_any (n d : Int) (w : World) (hs : Std w) (a1 : -9223372036854775808 ≤ n) (a2 : n ≤ 9223372036854775807) (b1 : -9223372036854775808 ≤ d) (b2 : d ≤ 9223372036854775807) :
    Calls Tryz.prog 22 #[.int .i64 n, .int .i64 d] w fun e w' => e = .returned (.tuple #[ratV (newS n d) (newT n d), .int .i64 (newE d)]) ∧ Below w.heap.size w w' := by
  have h63 := fun (z : Int) (h1 : -9223372036854775808 ≤ z) (h2 : z ≤ 9223372036854775807) => (Nat.le_trans (str_big (a := z.natAbs) (n := 19) (by omega) (by decide)) (by decide) : (str z.natAbs).size ≤ 400000)
  have HO1 := Lib.hid (fun wx hw => ofW_any n wx hw a1 a2)
  have HO2 := Lib.hid (fun wx hw => ofW_any d wx hw b1 b2)
  have HNW := Lib.hid (fun wx hw => newF_any n d wx hw (h63 n a1 a2) (h63 d b1 b2))
  have HS := Lib.hid hs
  obtain ⟨s, hs2⟩ : ∃ s, s = zS n := ⟨_, rfl⟩
  obtain ⟨t, ht⟩ : ∃ s, s = zS d := ⟨_, rfl⟩
  obtain ⟨ps, hps⟩ : ∃ s, s = newS n d := ⟨_, rfl⟩
  obtain ⟨qs, hqs⟩ : ∃ s, s = newT n d := ⟨_, rfl⟩
  obtain ⟨E, hE⟩ : ∃ E, E = newE d := ⟨_, rfl⟩
  rw [← hs2] at HO1 HNW
  rw [← ht] at HO2 HNW
  rw [← hps, ← hqs, ← hE] at HNW ⊢
  clear hs2 ht hps hqs hE hs h63
  go_enter Tryz.func22, Tryz.ntmps22
  go_wp2_with fail
  obtain ⟨W0, hW0⟩ : ∃ W0, W0 = w.alloc (.cells #[.string ⟨#[]⟩, .string ⟨#[]⟩] 24) := ⟨_, rfl⟩
  have HB := Lib.hid (Bz.new w)
  rw [← hW0] at HB ⊢
  clear hW0
  refine (HO1.out _ (HS.out.below HB.out.below)).mono ?_
  rintro e w1 ⟨rfl, h1⟩
  have Z1 := Lib.hid (HB.out.to h1)
  clear h1
  go_wp2_with fail
  refine (HO2.out _ (HS.out.below Z1.out.below)).mono ?_
  rintro e w2 ⟨rfl, h2⟩
  have Z2 := Lib.hid (Z1.out.to h2)
  clear h2
  go_wp2_with fail
  refine (HNW.out _ (HS.out.below Z2.out.below)).mono ?_
  rintro e w3 ⟨rfl, h3⟩
  have Z3 := Lib.hid (Z2.out.to h3)
  clear h3
  have hf0 := Z3.out.res.free 0
  have he0 := Z3.out.res.c0
  have he1 := Z3.out.res.c1
  have hS0 := Z3.out.res.set0 (.string ps)
  have hS1 := hS0.set1 (.string qs)
  have hf1 := hS0.free 1
  have hg1 := hS0.c1
  have hk0 := hS1.c0
  have hk1 := hS1.c1
  have HBE := Lib.hid ((Z3.out.below.setCell (p := ⟨w.heap.size, 0, none⟩) (Nat.le_refl _) (.string ps)).setCell (p := ⟨w.heap.size, 1, none⟩) (Nat.le_refl _) (.string qs))
  clear hS0 hS1
  go_wp2_with fail
  (try simp only [Exit.inBlock, Exit.then])
  refine bodyPost_ret (v := .tuple #[ratV ps qs, .int .i64 E]) ?_ rfl ⟨rfl, HBE.out⟩
  rw [results_cell_tmp rfl]
  go_simp
end Go.Proofs.YtdgbplppabalgaaGreatDoor

namespace Go.Proofs.YtdgbplppabalgaaGreatDoor
open Go.RowKit

/-- the integer that a text says -/
def zV (s : ByteArray) : Int := if negB s = true then -((val (magB s).data.toList : Nat) : Int) else ((val (magB s).data.toList : Nat) : Int)
theorem zV_zS (z : Int) : zV (zS z) = z := by
  unfold zV
  rw [negB_zS, magB_zS, val_str]
  by_cases h : z < 0
  · rw [decide_eq_true h, if_pos rfl]; omega
  · rw [decide_eq_false h, if_neg (by decide)]; omega
theorem zV_of {s : ByteArray} (h : zCan s = true) : s = zS (zV s) := by
  obtain ⟨z, rfl⟩ := zCan_yes h
  rw [zV_zS]
def digL (l : List UInt8) : Bool := l.all isD && !l.isEmpty
def sgN (neg : Bool) (n : Nat) : Int := if neg = true then -(n : Int) else (n : Int)
/-- numerator and denominator of a text without its sign -/
def parT (neg : Bool) (t : List UInt8) : Option (Int × Int) :=
  if digL (t.takeWhile isD) = true then
    match t.dropWhile isD with
    | [] => some (sgN neg (val (t.takeWhile isD)), 1)
    | x :: r => if digL r = true then
        (if x = 47 then some (sgN neg (val (t.takeWhile isD)), ((val r : Nat) : Int))
         else if x = 46 then some (sgN neg (val (t.takeWhile isD ++ r)), ((10 ^ r.length : Nat) : Int)) else none)
      else none
  else none
theorem tw_all {f : List UInt8} (h : f.all isD = true) (y : UInt8) (hy : isD y = false) (g : List UInt8) : (f ++ y :: g).takeWhile isD = f ∧ (f ++ y :: g).dropWhile isD = y :: g := by
  induction f with
  | nil => constructor <;> simp [hy]
  | cons a f ih =>
    rw [List.all_cons, Bool.and_eq_true] at h
    obtain ⟨h1, h2⟩ := ih h.2
    constructor
    · show List.takeWhile isD (a :: (f ++ y :: g)) = _; rw [List.takeWhile_cons, h.1]; simp only [if_true]; rw [h1]
    · show List.dropWhile isD (a :: (f ++ y :: g)) = _; rw [List.dropWhile_cons, h.1]; simp only [if_true]; exact h2
theorem tw_none {f : List UInt8} (h : f.all isD = true) : f.takeWhile isD = f ∧ f.dropWhile isD = [] := by
  induction f with
  | nil => exact ⟨rfl, rfl⟩
  | cons a f ih =>
    rw [List.all_cons, Bool.and_eq_true] at h
    obtain ⟨h1, h2⟩ := ih h.2
    constructor
    · rw [List.takeWhile_cons, h.1]; simp only [if_true]; rw [h1]
    · rw [List.dropWhile_cons, h.1]; simp only [if_true]; exact h2
theorem bad_split {f : List UInt8} (h : f.all isD = false) : ∃ a x b, f = a ++ x :: b ∧ a.all isD = true ∧ isD x = false := by
  induction f with
  | nil => cases h
  | cons c f ih =>
    cases hc : isD c with
    | false => exact ⟨[], c, f, rfl, rfl, hc⟩
    | true =>
      rw [List.all_cons, hc, Bool.true_and] at h
      obtain ⟨a, x, b, e, ha, hx⟩ := ih h
      exact ⟨c :: a, x, b, by rw [e]; rfl, by rw [List.all_cons, hc, ha]; rfl, hx⟩
theorem digL_bad {r : List UInt8} {y : UInt8} (hy : isD y = false) (h : y ∈ r) : digL r = false := by
  have : r.all isD = false := by
    apply Bool.eq_false_iff.2; intro q
    rw [List.all_eq_true] at q
    rw [q y h] at hy; cases hy
  unfold digL; rw [this]; rfl
/-- a text that holds a byte other than a digit -/
theorem parT_sep (neg : Bool) (f g : List UInt8) (y : UInt8) (hy : isD y = false) :
    parT neg (f ++ y :: g) = if digL f = true ∧ digL g = true then
      (if y = 47 then some (sgN neg (val f), ((val g : Nat) : Int)) else if y = 46 then some (sgN neg (val (f ++ g)), ((10 ^ g.length : Nat) : Int)) else none) else none := by
  cases hf : f.all isD with
  | true =>
    obtain ⟨e1, e2⟩ := tw_all hf y hy g
    unfold parT
    rw [e1, e2]
    by_cases h1 : digL f = true
    · rw [if_pos h1]
      by_cases h2 : digL g = true
      · simp only [h2, if_true, h1, true_and]
      · simp only [h2, if_false, and_false, Bool.false_eq_true]
    · rw [if_neg h1, if_neg (fun q => h1 q.1)]
  | false =>
    have hdf : digL f = false := by unfold digL; rw [hf]; rfl
    rw [if_neg (by rw [hdf]; intro q; cases q.1)]
    obtain ⟨a, x, b, e, ha, hx⟩ := bad_split hf
    have e3 : f ++ y :: g = a ++ x :: (b ++ y :: g) := by rw [e]; simp
    obtain ⟨e1, e2⟩ := tw_all ha x hx (b ++ y :: g)
    unfold parT
    rw [e3, e1, e2]
    have hb : digL (b ++ y :: g) = false := digL_bad hy (by simp)
    simp only [hb, Bool.false_eq_true, if_false]
    split <;> rfl
/-- a text without separators -/
theorem parT_plain (neg : Bool) (t : List UInt8) (h1 : (47 : UInt8) ∉ t) (h2 : (46 : UInt8) ∉ t) : parT neg t = if digL t = true then some (sgN neg (val t), 1) else none := by
  cases hf : t.all isD with
  | true =>
    obtain ⟨e1, e2⟩ := tw_none hf
    unfold parT
    rw [e1, e2]
  | false =>
    have hdf : digL t = false := by unfold digL; rw [hf]; rfl
    obtain ⟨a, x, b, e, ha, hx⟩ := bad_split hf
    rw [e] at h1 h2
    have hx1 : x ≠ 47 := fun q => h1 (by rw [q]; simp)
    have hx2 : x ≠ 46 := fun q => h2 (by rw [q]; simp)
    rw [if_neg (by rw [hdf]; decide), e, parT_sep neg a b x hx]
    split
    · first | rfl | rw [if_neg hx1, if_neg hx2]
    · rfl
theorem index_ways (c : UInt8) (l : List UInt8) : (∃ b r, l = b ++ c :: r ∧ c ∉ b ∧ Lib.index l [c] = (b.length : Int)) ∨ (c ∉ l ∧ Lib.index l [c] = -1) := by
  induction l with
  | nil => exact .inr ⟨by simp, rfl⟩
  | cons a l ih =>
    by_cases h : c = a
    · subst h
      exact .inl ⟨[], l, rfl, by simp, by unfold Lib.index; rw [if_pos (by simp)]; rfl⟩
    · have hp : ¬ ([c].isPrefixOf (a :: l) = true) := by simp [List.isPrefixOf, h]
      rcases ih with ⟨b, r, e, hb, hi⟩ | ⟨hb, hi⟩
      · refine .inl ⟨a :: b, r, by rw [e]; rfl, by simp [h, hb], ?_⟩
        unfold Lib.index
        rw [if_neg hp, hi, if_neg (by rw [beq_iff_eq]; omega)]
        simp
      · refine .inr ⟨by simp [h, hb], ?_⟩
        unfold Lib.index
        rw [if_neg hp, hi]; rfl
theorem cut_ways (c : UInt8) (l : List UInt8) : (∃ b r, l = b ++ c :: r ∧ c ∉ b ∧ Lib.cut l [c] = (b, r, true)) ∨ (c ∉ l ∧ Lib.cut l [c] = (l, [], false)) := by
  rcases index_ways c l with ⟨b, r, e, hb, hi⟩ | ⟨hb, hi⟩
  · refine .inl ⟨b, r, e, hb, ?_⟩
    unfold Lib.cut
    rw [hi, if_pos (by omega), Int.toNat_natCast, e]
    simp
  · refine .inr ⟨hb, ?_⟩
    unfold Lib.cut
    rw [hi]; rfl
theorem any_ways (l : List UInt8) : (∃ b y r, l = b ++ y :: r ∧ (47 : UInt8) ∉ b ∧ (46 : UInt8) ∉ b ∧ (y = 47 ∨ y = 46) ∧ Lib.indexAny l [47, 46] = (b.length : Int)) ∨ ((47 : UInt8) ∉ l ∧ (46 : UInt8) ∉ l ∧ Lib.indexAny l [47, 46] = -1) := by
  induction l with
  | nil => exact .inr ⟨by simp, by simp, rfl⟩
  | cons a l ih =>
    by_cases h : a = 47 ∨ a = 46
    · refine .inl ⟨[], a, l, rfl, by simp, by simp, h, ?_⟩
      unfold Lib.indexAny
      rw [if_pos (by rcases h with h | h <;> rw [h] <;> decide)]; rfl
    · have hp : ¬ (([47, 46] : List UInt8).contains a = true) := by simp; exact ⟨fun q => h (.inl q), fun q => h (.inr q)⟩
      have n1 : ¬ (47 : UInt8) = a := fun q => h (.inl q.symm)
      have n2 : ¬ (46 : UInt8) = a := fun q => h (.inr q.symm)
      rcases ih with ⟨b, y, r, e, hb1, hb2, hy, hi⟩ | ⟨hb1, hb2, hi⟩
      · refine .inl ⟨a :: b, y, r, by rw [e]; rfl, by simp [n1, hb1], by simp [n2, hb2], hy, ?_⟩
        unfold Lib.indexAny
        rw [if_neg hp, hi, if_neg (by rw [beq_iff_eq]; omega)]
        simp
      · refine .inr ⟨by simp [n1, hb1], by simp [n2, hb2], ?_⟩
        unfold Lib.indexAny
        rw [if_neg hp, hi]; rfl
/-- what Parse answers -/
def parO (s : ByteArray) : ByteArray × ByteArray × Int :=
  if 400 < s.size then (⟨#[]⟩, ⟨#[]⟩, 16)
  else match parT (negB s) (magB s).data.toList with
    | none => (⟨#[]⟩, ⟨#[]⟩, 15)
    | some (n, d) => (newS n d, newT n d, newE d)
theorem trimP_mag (s : ByteArray) : (⟨(Lib.trimPrefix s.data.toList [45]).toArray⟩ : ByteArray) = magB s := by
  have hh : Lib.hasPrefix s.data.toList [45] = negB s := by
    unfold Lib.hasPrefix negB
    cases s.data.toList with
    | nil => rfl
    | cons a l =>
      show (([45] : List UInt8).isPrefixOf (a :: l)) = _
      simp only [List.isPrefixOf, Bool.and_true, List.head?_cons]
      rw [Bool.eq_iff_iff, beq_iff_eq, beq_iff_eq]
      exact ⟨fun q => by rw [← q], fun q => (Option.some.inj q).symm⟩
  unfold Lib.trimPrefix magB
  rw [hh]
  by_cases h : negB s = true
  · rw [if_pos h, if_pos h]
    have h0 : 0 < s.size := by
      apply Nat.pos_of_ne_zero; intro q; rw [negB_nil q] at h; cases h
    have e := (ext_list s 1 s.size)
    have e2 : s.data.toList.take s.size = s.data.toList := List.take_of_length_le (by rw [len_list]; exact Nat.le_refl _)
    rw [e2] at e
    have e3 : ∀ (u : ByteArray) (l : List UInt8), u.data.toList = l → (⟨l.toArray⟩ : ByteArray) = u := by
      intro u l h; subst h; simp
    exact e3 _ _ e
  · rw [if_neg h, if_neg h]
theorem hasP_neg (s : ByteArray) : Lib.hasPrefix s.data.toList [45] = negB s := by
  unfold Lib.hasPrefix negB
  cases s.data.toList with
  | nil => rfl
  | cons a l =>
    show (([45] : List UInt8).isPrefixOf (a :: l)) = _
    simp only [List.isPrefixOf, Bool.and_true, List.head?_cons]
    rw [Bool.eq_iff_iff, beq_iff_eq, beq_iff_eq]
    exact ⟨fun q => by rw [← q], fun q => (Option.some.inj q).symm⟩
end Go.Proofs.YtdgbplppabalgaaGreatDoor

namespace Go.Proofs.YtdgbplppabalgaaGreatDoor
open Go.RowKit

end Go.Proofs.YtdgbplppabalgaaGreatDoor

namespace Go.Proofs.YtdgbplppabalgaaGreatDoor
open Go.RowKit

theorem drop_take_snoc {s : ByteArray} {f j : Nat} (hf : f ≤ j) (hj : j < s.size) : (s.data.toList.take (j + 1)).drop f = (s.data.toList.take j).drop f ++ [s[j]'hj] := by
  rw [List.take_add_one, List.getElem?_eq_getElem (by rw [len_list]; exact hj), at_list s j hj, Option.toList_some, List.drop_append_of_le_length]
  rw [List.length_take, len_list]; omega
theorem isD_at {s : ByteArray} (h : s.data.toList.all isD = true) (j : Nat) (hj : j < s.size) : isD (s[j]'hj) = true := by
  have hm : (s[j]'hj) ∈ s.data.toList := by rw [← at_list s j hj]; exact List.getElem_mem _
  exact List.all_eq_true.1 h _ hm
theorem part_lt {s : ByteArray} (h : s.data.toList.all isD = true) (f j : Nat) : val ((s.data.toList.take j).drop f) < 10 ^ (j - f) := by
  have h1 := val_lt ((s.data.toList.take j).drop f) (all_sub h f j)
  have h2 : ((s.data.toList.take j).drop f).length ≤ j - f := by rw [List.length_drop, List.length_take]; omega
  exact Nat.lt_of_lt_of_le h1 (Nat.pow_le_pow_right (by decide) h2)
theorem split_val {u : ByteArray} {f : Nat} (hf : f ≤ u.size) (h : f = 0 ∨ u.size = f + 9) (P : Nat) :
    val u.data.toList * P = val (u.data.toList.take f) * (P * 1000000000) + P * val (u.data.toList.drop f) := by
  have h1 := val_append (u.data.toList.take f) (u.data.toList.drop f)
  rw [List.take_append_drop] at h1
  rcases h with h | h
  · subst h
    rw [List.take_zero, List.drop_zero, val_nil, Nat.zero_mul, Nat.zero_add, Nat.mul_comm]
  · have hl : (u.data.toList.drop f).length = 9 := by rw [List.length_drop, len_list]; omega
    rw [h1, hl, Nat.add_mul, Nat.mul_assoc, Nat.mul_comm (10 ^ 9) P, Nat.mul_comm (val (u.data.toList.drop f)) P]
end Go.Proofs.YtdgbplppabalgaaGreatDoor

namespace Go.Proofs.YtdgbplppabalgaaGreatDoor
open Go.RowKit

theorem canon_more {V : Nat} (hV : 0 < V) {m : List UInt8} (hm : m.all isD = true) : canonL (Lib.decDigits V ++ m) = true := by
  have h1 := canon_dd V
  unfold canonL headOk at h1 ⊢
  rw [Bool.and_eq_true] at h1
  have hne := dd_ne V
  cases hq : Lib.decDigits V with
  | nil => exact absurd hq hne
  | cons c l =>
    rw [hq] at h1
    have hc : c ≠ 48 := by
      intro h48
      have h2 := h1.1
      rw [h48] at h2
      have hl : l = [] := by
        cases l with
        | nil => rfl
        | cons d l => simp at h2
      have h3 := val_dd V
      rw [hq, h48, hl] at h3
      have : val [48] = 0 := by decide
      omega
    rw [List.cons_append, Bool.and_eq_true]
    refine ⟨by simp [hc], ?_⟩
    have h4 := h1.2
    rw [List.all_cons] at h4 ⊢
    rw [List.all_append]
    simp only [Bool.and_eq_true] at h4 ⊢
    exact ⟨h4.1, h4.2, hm⟩
/-- nine digits, with zeros before them -/
def pad9 (r : Nat) (v : ByteArray) : Prop := v.data.toList.all isD = true ∧ val v.data.toList = r
theorem pad9.more {r : Nat} {v : ByteArray} (h : pad9 r v) : pad9 r (⟨#[48]⟩ ++ v) := by
  have e : (⟨#[48]⟩ ++ v : ByteArray).data.toList = 48 :: v.data.toList := by rw [ByteArray.data_append]; simp
  refine ⟨by rw [e, List.all_cons, h.1]; rfl, ?_⟩
  rw [e, val_cons, h.2]; simp
theorem pad9.join {V r : Nat} {v : ByteArray} (hV : 0 < V) (h : pad9 r v) (hv : v.size = 9) : str V ++ v = str (V * 1000000000 + r) := by
  have e : (str V ++ v : ByteArray).data.toList = Lib.decDigits V ++ v.data.toList := by rw [ByteArray.data_append, Array.toList_append, str_list]
  have hc : canonL (str V ++ v : ByteArray).data.toList = true := by rw [e]; exact canon_more hV h.1
  rw [str_of hc, e, val_append, val_dd, h.2, len_list, hv]
theorem drop_pv {p : List Nat} {j : Nat} (hj : j < p.length) : pv (p.drop j) = p[j] + 1000000000 * pv (p.drop (j + 1)) := by
  rw [List.drop_eq_getElem_cons hj]; rfl
theorem itoaZ (z : Int) (w : World) (hs : Std w) (h1 : -9223372036854775808 ≤ z) (h2 : z ≤ 9223372036854775807) :
    Calls Tryz.prog 69 #[.int .i64 z] w fun e w' => e = .returned (.string (zS z)) ∧ Below w.heap.size w w' := by
  have hi := Tryz.strconv_Itoa z h1 h2 w hs.tab
  rw [itoa_zS] at hi
  refine hi.mono ?_
  rintro e w3 ⟨rfl, k, os, hw3⟩
  exact ⟨rfl, by rw [hw3]; exact Lib.below_grow _ _ (Nat.le_refl _) _ _⟩
theorem pv_size {p : List Nat} (h : lt9 p) (hl : p.length ≤ 300000) : (str (pv p)).size ≤ 2700001 := by
  have h1 := pv_lt p h
  rw [← pow9] at h1
  refine Nat.le_trans (str_big (n := 9 * p.length + 1) (Nat.lt_of_lt_of_le h1 (Nat.pow_le_pow_right (by decide) (by omega))) (by omega)) (by omega)
theorem last_pos {p : List Nat} {x : Nat} (h : Pcs p x) (h0 : 0 < p.length) : 0 < p[p.length - 1] := by
  have ht := h.top
  unfold Go.Proofs.YtdgbplppabalgaaGreatDoor.top at ht
  rw [List.getLast?_eq_getElem?, List.getElem?_eq_getElem (by omega)] at ht
  exact Nat.pos_of_ne_zero fun q => ht (by rw [q])

end Go.Proofs.YtdgbplppabalgaaGreatDoor

namespace Go.Proofs.YtdgbplppabalgaaGreatDoor
open Go.RowKit

theorem decFrom_val (l : List UInt8) : ∀ acc, l.all isD = true → Lib.decFrom acc l = some (l.foldl (fun n c => 10 * n + (c.toNat - 48)) acc) := by
  induction l with
  | nil => intro acc _; rfl
  | cons c l ih =>
    intro acc h
    rw [List.all_cons, Bool.and_eq_true] at h
    obtain ⟨_, h2, h3⟩ := isD_lt h.1
    have hd : Lib.digitVal c = some (c.toNat - 48) := by unfold Lib.digitVal; rw [if_pos ⟨h2, h3⟩]
    show (match Lib.digitVal c with | some d => Lib.decFrom (acc * 10 + d) l | none => none) = _
    rw [hd]
    show Lib.decFrom (acc * 10 + (c.toNat - 48)) l = _
    rw [ih _ h.2, Nat.mul_comm acc 10]; rfl
theorem atoi_val {l : List UInt8} (h0 : l ≠ []) (h : l.all isD = true) : Lib.atoi l = some ((val l : Nat) : Int) := by
  cases l with
  | nil => exact absurd rfl h0
  | cons c r =>
    have hc := isD_lt (by rw [List.all_cons, Bool.and_eq_true] at h; exact h.1)
    have h45 : (c == 45) = false := by rw [beq_eq_false_iff_ne]; intro e; rw [e] at hc; exact absurd hc.2.1 (by decide)
    have h43 : (c == 43) = false := by rw [beq_eq_false_iff_ne]; intro e; rw [e] at hc; exact absurd hc.2.1 (by decide)
    unfold Lib.atoi
    simp only [h45, h43, Bool.false_eq_true, if_false]
    have hd : Lib.decNat (c :: r) = some (val (c :: r)) := by
      show (if (c :: r).isEmpty = true then none else Lib.decFrom 0 (c :: r)) = _
      rw [if_neg (by simp)]
      exact decFrom_val (c :: r) 0 h
    rw [hd]; rfl
theorem rep_zero (k : Nat) : Lib.repeatL [48] k = List.replicate k 48 := by
  induction k with
  | zero => rfl
  | succ k ih => show [48] ++ Lib.repeatL [48] k = _; rw [ih]; rfl
theorem zeros_all (k : Nat) : (List.replicate k (48 : UInt8)).all isD = true := by
  rw [List.all_eq_true]; intro x hx; rw [List.eq_of_mem_replicate hx]; decide
theorem zeros_val (k : Nat) : val (List.replicate k (48 : UInt8)) = 0 := by
  induction k with
  | zero => rfl
  | succ k ih => rw [List.replicate_succ, val_cons, ih, show (48 : UInt8).toNat - 48 = 0 from rfl, Nat.zero_mul]
/-- the digits of the lower pieces, nine for each -/
structure Lows (s : ByteArray) (L : List Nat) : Prop where
  all : s.data.toList.all isD = true
  val : val s.data.toList = pv L
  size : s.size = 9 * L.length
theorem Lows.nil : Lows ⟨#[]⟩ [] := ⟨rfl, rfl, rfl⟩
theorem cat_list (s t : ByteArray) : (s ++ t).data.toList = s.data.toList ++ t.data.toList := by rw [ByteArray.data_append, Array.toList_append]
theorem Lows.more {s : ByteArray} {L : List Nat} (h : Lows s L) {x k : Nat} (hk : k + (str x).size = 9) : Lows ((⟨(List.replicate k (48 : UInt8)).toArray⟩ ++ str x) ++ s) (L ++ [x]) := by
  have e1 : ((⟨(List.replicate k (48 : UInt8)).toArray⟩ : ByteArray).data.toList) = List.replicate k 48 := by simp
  have hl : (str x).data.toList.length = (str x).size := len_list _
  refine ⟨?_, ?_, ?_⟩
  · rw [cat_list, cat_list, e1, List.all_append, List.all_append, zeros_all, str_list, all_dd, h.all]; rfl
  · rw [cat_list, cat_list, e1, val_append, val_append, zeros_val, val_str, h.val, len_list s, h.size, pv_snoc, pow9]
    rw [Nat.zero_mul, Nat.zero_add, Nat.mul_comm, Nat.add_comm]
  · rw [ByteArray.size_append, ByteArray.size_append, h.size, List.length_append]
    have e2 : (⟨(List.replicate k (48 : UInt8)).toArray⟩ : ByteArray).size = k := by rw [← len_list, e1, List.length_replicate]
    rw [e2]; show k + (str x).size + 9 * L.length = 9 * (L.length + 1); omega
theorem Lows.top {s : ByteArray} {L : List Nat} (h : Lows s L) {x : Nat} (hx : 0 < x) : str x ++ s = str (pv (L ++ [x])) := by
  have hc : canonL (str x ++ s : ByteArray).data.toList = true := by rw [cat_list, str_list]; exact canon_more hx h.all
  rw [str_of hc, cat_list, str_list, val_append, val_dd, h.val, len_list s, h.size, pv_snoc, pow9, Nat.mul_comm, Nat.add_comm]
end Go.Proofs.YtdgbplppabalgaaGreatDoor

namespace Go.Proofs.YtdgbplppabalgaaGreatDoor
open Go.RowKit

theorem mag_list (s : ByteArray) : (magB s).data.toList = if negB s = true then s.data.toList.drop 1 else s.data.toList := by
  unfold magB
  by_cases h : negB s = true
  · rw [if_pos h, if_pos h, ext_list, List.take_of_length_le (by rw [len_list]; exact Nat.le_refl _)]
  · rw [if_neg h, if_neg h]
theorem mag_ne {s : ByteArray} (h : digL (magB s).data.toList = true) : s.data.toList ≠ [] := by
  intro k
  rw [mag_list, k] at h
  split at h <;> cases h
theorem digL_all {l : List UInt8} (h : digL l = true) : l.all isD = true := by unfold digL at h; rw [Bool.and_eq_true] at h; exact h.1
theorem digL_ne {l : List UInt8} (h : digL l = true) : l ≠ [] := by rintro rfl; cases h
theorem negB_cat {b r : ByteArray} (h : b.data.toList ≠ []) : negB (b ++ r) = negB b := by
  unfold negB
  rw [cat_list]
  cases e : b.data.toList with
  | nil => exact absurd e h
  | cons a l => rfl
theorem mag_cat {b r : ByteArray} (h : b.data.toList ≠ []) : (magB (b ++ r)).data.toList = (magB b).data.toList ++ r.data.toList := by
  rw [mag_list, mag_list, negB_cat h, cat_list]
  by_cases k : negB b = true
  · rw [if_pos k, if_pos k]
    cases e : b.data.toList with
    | nil => exact absurd e h
    | cons a l => rfl
  · rw [if_neg k, if_neg k]
theorem size_list (s : ByteArray) : s.size = s.data.toList.length := (len_list s).symm
theorem mag_le (s : ByteArray) : (magB s).size ≤ s.size := by
  rw [size_list, size_list, mag_list]
  split
  · rw [List.length_drop]; omega
  · exact Nat.le_refl _
theorem par_dig {s : ByteArray} (h : digL (magB s).data.toList = true) (hs : s.size ≤ 400) : parV s = (zS (sgN (negB s) (val (magB s).data.toList)), 0) := by
  have h1 := digL_all h
  have h2 := digL_ne h
  have h3 := val_lt _ h1
  have hm : (magB s).size ≠ 0 := by
    rw [size_list]; intro k; exact h2 (List.length_eq_zero_iff.1 k)
  have hml := mag_le s
  have h4 : (str (val (magB s).data.toList)).size ≤ (magB s).size := str_big (by rw [size_list]; exact h3) (by omega)
  have e := parV_ok (s := s) (by omega) (by rintro (k | k); exact hm k; rw [h1] at k; cases k) (by omega)
  rw [e]; rfl
theorem par_cat {b r : ByteArray} (hb : digL (magB b).data.toList = true) (hr : digL r.data.toList = true) (hs : b.size + r.size ≤ 400) :
    parV (b ++ r) = (zS (sgN (negB b) (val ((magB b).data.toList ++ r.data.toList))), 0) := by
  have hb0 := mag_ne hb
  have hd : digL (magB (b ++ r)).data.toList = true := by
    rw [mag_cat hb0]
    unfold digL
    rw [List.all_append, digL_all hb, digL_all hr]
    cases e : (magB b).data.toList with
    | nil => exact absurd e (digL_ne hb)
    | cons a l => rfl
  have hsz : (b ++ r).size ≤ 400 := by rw [ByteArray.size_append]; exact hs
  rw [par_dig hd hsz, negB_cat hb0, mag_cat hb0]
theorem par_ten {k : Nat} (h0 : 0 < k) (hk : k ≤ 399) : parV ((⟨#[49]⟩ : ByteArray) ++ ⟨(Lib.repeatL [48] k).toArray⟩) = (zS ((10 ^ k : Nat) : Int), 0) := by
  have e : Lib.repeatL [48] k = List.replicate k 48 := by
    have := Lib.repeatL_replicate 48 1 k
    rw [Nat.mul_one] at this; exact this
  have hv : ∀ n, val (List.replicate n (48 : UInt8)) = 0 := by
    intro n
    induction n with
    | zero => rfl
    | succ n ih => rw [List.replicate_succ, val_cons, ih]; simp
  have hl : (⟨(List.replicate k (48 : UInt8)).toArray⟩ : ByteArray).data.toList = List.replicate k 48 := rfl
  have hsz : (⟨(List.replicate k (48 : UInt8)).toArray⟩ : ByteArray).size = k := by rw [size_list, hl, List.length_replicate]
  rw [e]
  have hd : digL (⟨(List.replicate k (48 : UInt8)).toArray⟩ : ByteArray).data.toList = true := by
    rw [hl]
    unfold digL
    rw [List.all_eq_true.2 (by intro x hx; rw [(List.mem_replicate.1 hx).2]; decide)]
    cases k with
    | zero => omega
    | succ n => rfl
  have hmg : (magB (⟨#[49]⟩ : ByteArray)).data.toList = [49] := by decide
  rw [par_cat (b := ⟨#[49]⟩) (by rw [hmg]; decide) hd (by rw [hsz]; show 1 + k ≤ 400; omega), hmg, hl]
  have hng : negB (⟨#[49]⟩ : ByteArray) = false := by decide
  rw [hng]
  show (zS ((val ([49] ++ List.replicate k 48) : Nat) : Int), (0 : Int)) = _
  rw [val_append, hv, List.length_replicate]
  have : val [49] = 1 := by decide
  rw [this, Nat.one_mul, Nat.add_zero]
end Go.Proofs.YtdgbplppabalgaaGreatDoor

namespace Go.Proofs.YtdgbplppabalgaaGreatDoor
open Go.RowKit

theorem neg_at {s : ByteArray} {b r : List UInt8} {y : UInt8} (h : s.data.toList = b ++ y :: r) (hy : y ≠ 45) : negB s = negB ⟨b.toArray⟩ := by
  unfold negB
  rw [h]
  cases b with
  | nil =>
    show (some y == some 45) = (none == some 45)
    rw [show (none == some (45 : UInt8)) = false from rfl]
    rw [Bool.eq_false_iff]; intro k; exact hy (Option.some.inj (eq_of_beq k))
  | cons a l => rfl
theorem mag_at {s : ByteArray} {b r : List UInt8} {y : UInt8} (h : s.data.toList = b ++ y :: r) (hy : y ≠ 45) : (magB s).data.toList = (magB ⟨b.toArray⟩).data.toList ++ y :: r := by
  rw [mag_list, mag_list, neg_at h hy, h]
  by_cases k : negB ⟨b.toArray⟩ = true
  · rw [if_pos k, if_pos k]
    cases b with
    | nil => cases k
    | cons a l => rfl
  · rw [if_neg k, if_neg k]
theorem parO_over {s : ByteArray} (h : 400 < s.size) : parO s = (⟨#[]⟩, ⟨#[]⟩, 16) := if_pos h
theorem parO_bad {s : ByteArray} {b r : List UInt8} {y : UInt8} (h4 : ¬ 400 < s.size) (h : s.data.toList = b ++ y :: r) (hy : y = 47 ∨ y = 46) (hd : digL (magB ⟨b.toArray⟩).data.toList = false ∨ digL r = false) : parO s = (⟨#[]⟩, ⟨#[]⟩, 15) := by
  have h45 : y ≠ 45 := by rcases hy with rfl | rfl <;> decide
  have hnd : isD y = false := by rcases hy with rfl | rfl <;> decide
  unfold parO
  rw [if_neg h4, mag_at h h45, parT_sep _ _ _ _ hnd, if_neg (by rintro ⟨k1, k2⟩; rcases hd with k | k; rw [k] at k1; cases k1; rw [k] at k2; cases k2)]
theorem parO_dec {s : ByteArray} {b r : List UInt8} (h4 : ¬ 400 < s.size) (h : s.data.toList = b ++ 46 :: r) (h1 : digL (magB ⟨b.toArray⟩).data.toList = true) (h2 : digL r = true) :
    parO s = (newS (sgN (negB ⟨b.toArray⟩) (val ((magB ⟨b.toArray⟩).data.toList ++ r))) ((10 ^ r.length : Nat) : Int), newT (sgN (negB ⟨b.toArray⟩) (val ((magB ⟨b.toArray⟩).data.toList ++ r))) ((10 ^ r.length : Nat) : Int), newE ((10 ^ r.length : Nat) : Int)) := by
  unfold parO
  rw [if_neg h4, mag_at h (by decide), parT_sep _ _ _ _ (by decide), if_pos ⟨h1, h2⟩, if_neg (by decide), if_pos rfl, neg_at h (by decide)]
theorem parO_rat {s : ByteArray} {b r : List UInt8} (h4 : ¬ 400 < s.size) (h : s.data.toList = b ++ 47 :: r) (h1 : digL (magB ⟨b.toArray⟩).data.toList = true) (h2 : digL r = true) :
    parO s = (newS (sgN (negB ⟨b.toArray⟩) (val (magB ⟨b.toArray⟩).data.toList)) ((val r : Nat) : Int), newT (sgN (negB ⟨b.toArray⟩) (val (magB ⟨b.toArray⟩).data.toList)) ((val r : Nat) : Int), newE ((val r : Nat) : Int)) := by
  unfold parO
  rw [if_neg h4, mag_at h (by decide), parT_sep _ _ _ _ (by decide), if_pos ⟨h1, h2⟩, if_pos rfl, neg_at h (by decide)]
theorem mag_sub {s : ByteArray} {x : UInt8} (h : x ∉ s.data.toList) : x ∉ (magB s).data.toList := by
  rw [mag_list]
  split
  · exact fun k => h (List.mem_of_mem_drop k)
  · exact h
theorem parO_one {s : ByteArray} (h4 : ¬ 400 < s.size) (h1 : (47 : UInt8) ∉ s.data.toList) (h2 : (46 : UInt8) ∉ s.data.toList) (h : digL (magB s).data.toList = true) :
    parO s = (newS (sgN (negB s) (val (magB s).data.toList)) 1, newT (sgN (negB s) (val (magB s).data.toList)) 1, newE 1) := by
  unfold parO
  rw [if_neg h4, parT_plain _ _ (mag_sub h1) (mag_sub h2), if_pos h]
theorem parO_none {s : ByteArray} (h4 : ¬ 400 < s.size) (h1 : (47 : UInt8) ∉ s.data.toList) (h2 : (46 : UInt8) ∉ s.data.toList) (h : digL (magB s).data.toList = false) :
    parO s = (⟨#[]⟩, ⟨#[]⟩, 15) := by
  unfold parO
  rw [if_neg h4, parT_plain _ _ (mag_sub h1) (mag_sub h2), if_neg (by rw [h]; decide)]
theorem par_pl {r : ByteArray} (h : digL r.data.toList = true) (hs : r.size ≤ 400) : parV r = (zS ((val r.data.toList : Nat) : Int), 0) := by
  have hn : negB r = false := by
    unfold negB
    cases e : r.data.toList with
    | nil => rfl
    | cons a l =>
      rw [e] at h
      show (some a == some 45) = false
      rw [Bool.eq_false_iff]; intro k
      have : a = 45 := Option.some.inj (eq_of_beq k)
      subst this
      unfold digL at h
      rw [List.all_cons] at h
      simp [isD] at h
  have hm : (magB r).data.toList = r.data.toList := by rw [mag_list, hn]; rfl
  have e := par_dig (s := r) (by rw [hm]; exact h) hs
  rw [hm, hn] at e
  exact e
theorem par_one : parV ⟨#[49]⟩ = (zS 1, 0) := by
  have h := par_pl (r := ⟨#[49]⟩) (by decide) (by decide)
  rw [h]
  have : val (⟨#[49]⟩ : ByteArray).data.toList = 1 := by decide
  rw [this]; rfl
end Go.Proofs.YtdgbplppabalgaaGreatDoor
