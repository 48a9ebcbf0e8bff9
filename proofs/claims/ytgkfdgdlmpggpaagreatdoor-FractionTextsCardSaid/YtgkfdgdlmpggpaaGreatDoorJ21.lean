/-
  Texts of one seat, joined: YLowest YPlain2 YNew YOf.
-/
import Derived.Test.YtgkfdgdlmpggpaaGreatDoorJ20
import Derived.Test.YtgkfdgdlmpggpaaGreatDoorJ15
import Derived.Test.YtgkfdgdlmpggpaaGreatDoorJ5
namespace Go.Proofs.YtgkfdgdlmpggpaaGreatDoor
open Go.RowKit

theorem BxT.other {w : World} {B g : Nat} {T : TypeId} {u v : Value} (h : BxT w B g T u v) {p : Addr} (hp : g ≠ p.block) (x : Value) : BxT (w.setCell p x) B g T u v := ownsRow_setCell_other h (by simp [Value.ownBlock]; exact hp) x
theorem BxT.alloc {w : World} {B g : Nat} {T : TypeId} {u v : Value} (h : BxT w B g T u v) (o : Obj) : BxT (w.alloc o) B g T u v := World.ownsRow.alloc h o
theorem low_fdiv (n : Int) {d : Int} (hd : 0 < d) {G : Nat} (hG : G = Nat.gcd n.natAbs d.natAbs) : n.fdiv (G : Int) = lowN n d.natAbs ∧ d.fdiv (G : Int) = (lowD n d.natAbs : Int) ∧ 0 < G := by
  refine ⟨?_, ?_, ?_⟩
  · rw [hG, Int.fdiv_eq_ediv_of_nonneg _ (by omega)]; rfl
  · rw [hG, Int.fdiv_eq_ediv_of_nonneg _ (by omega)]
    unfold lowD
    rw [Int.natCast_ediv, show ((d.natAbs : Nat) : Int) = d by omega]
  · rw [hG]; exact Nat.gcd_pos_of_pos_right _ (by omega)
set_option maxHeartbeats 3200000 in
theorem lowestF_few (n d : Int) (w : World) (hs : Std w) (hf : fewOk n d) (h0 : 0 < d) (hn : (str n.natAbs).size ≤ 400000) (hd : (str d.natAbs).size ≤ 400000) :
    Calls Tryz.prog 71 #[.string (zS n), .string (zS d)] w fun e w' => e = .returned (.tuple #[ratV (zS (lowN n d.natAbs)) (str (lowD n d.natAbs)), .int .i64 0]) ∧ Below w.heap.size w w' := by
  have HF := Lib.hid (fun wx hw => fewF_yes n d wx hw hf (by omega) (by omega))
  obtain ⟨k1, k2, k3, k4⟩ := hf
  have HL := Lib.hid (fun wx hw => lowF_any n d wx hw (by omega) (by omega) (by omega) (by omega))
  have HS := Lib.hid hs
  obtain ⟨s, hs2⟩ : ∃ s, s = zS n := ⟨_, rfl⟩
  obtain ⟨t, ht⟩ : ∃ s, s = zS d := ⟨_, rfl⟩
  obtain ⟨ps, hps⟩ : ∃ s, s = zS (lowN n d.natAbs) := ⟨_, rfl⟩
  obtain ⟨qs, hqs⟩ : ∃ s, s = str (lowD n d.natAbs) := ⟨_, rfl⟩
  rw [← hs2, ← ht] at HF ⊢
  rw [← hps, ← hqs] at HL ⊢
  clear hs2 ht hps hqs hn hd k1 k2 k3 k4 h0 hs
  go_enter Tryz.func71, Tryz.ntmps71
  go_wp2_with fail
  obtain ⟨W0, hW0⟩ : ∃ W0, W0 = w.alloc (.cells #[.string ⟨#[]⟩, .string ⟨#[]⟩] 24) := ⟨_, rfl⟩
  have HB := Lib.hid (Bz.new w)
  rw [← hW0] at HB ⊢
  clear hW0
  refine (HF.out _ (HS.out.below HB.out.below)).mono ?_
  rintro e w1 ⟨rfl, h1⟩
  have Z1 := Lib.hid (HB.out.to h1)
  have hlt := Z1.out.res.lt.2
  have A := BxT.new w1 w.heap.size Z1.out.below.size 78 (.int .i64 (n)) (.int .i64 (d))
  have cc0 := A.c0
  have cc1 := A.c1
  have R1 := Z1.out.res.alloc (.cells #[.int .i64 (n), .int .i64 (d)] 78)
  have D1 := Z1.out.below.alloc Z1.out.below.size (.cells #[.int .i64 (n), .int .i64 (d)] 78)
  have HZ := Lib.hid (show Bz w _ from ⟨D1, R1⟩)
  clear A R1 D1 h1
  go_wp2_with fail
  refine (HL.out _ (HS.out.below HZ.out.below)).mono ?_
  rintro e w2 ⟨rfl, h2⟩
  have Z2 := Lib.hid (HZ.out.to h2)
  clear h2
  have hf0 := Z2.out.res.free 0
  have he0 := Z2.out.res.c0
  have he1 := Z2.out.res.c1
  have hS0 := Z2.out.res.set0 (.string ps)
  have hS1 := hS0.set1 (.string qs)
  have hf1 := hS0.free 1
  have hg1 := hS0.c1
  have hk0 := hS1.c0
  have hk1 := hS1.c1
  have HBE := Lib.hid ((Z2.out.below.setCell (p := ⟨w.heap.size, 0, none⟩) (Nat.le_refl _) (.string ps)).setCell (p := ⟨w.heap.size, 1, none⟩) (Nat.le_refl _) (.string qs))
  clear hS0 hS1
  go_wp2_with fail
  (try simp only [Exit.inBlock, Exit.then])
  refine bodyPost_ret (v := .tuple #[ratV ps qs, .int .i64 0]) ?_ rfl ⟨rfl, HBE.out⟩
  rw [results_cell_tmp rfl]
  go_simp
set_option maxHeartbeats 3200000 in
theorem lowestF_far (n d : Int) (w : World) (hs : Std w) (hf : ¬ fewOk n d) (h0 : 0 < d) (hn : (str n.natAbs).size ≤ 400000) (hd : (str d.natAbs).size ≤ 400000) :
    Calls Tryz.prog 71 #[.string (zS n), .string (zS d)] w fun e w' => e = .returned (.tuple #[ratV (zS (lowN n d.natAbs)) (str (lowD n d.natAbs)), .int .i64 0]) ∧ Below w.heap.size w w' := by
  have HF := Lib.hid (fun wx hw => fewF_no n d wx hw hf (by omega) (by omega))
  obtain ⟨G, hG⟩ : ∃ G, G = Nat.gcd n.natAbs d.natAbs := ⟨_, rfl⟩
  obtain ⟨l1, l2, l3⟩ := low_fdiv n h0 hG
  have hGd : G ≤ d.natAbs := by rw [hG]; exact Nat.gcd_le_right _ (by omega)
  have hGs := sz_le hGd hd
  have hg := fun wx hw => gcdW_any n d wx hw hn hd
  rw [← hG] at hg
  have hd1 := fun wx hw => divW_any n (G : Int) wx hw hn (by rw [Int.natAbs_natCast]; exact hGs) (by omega)
  have hd2 := fun wx hw => divW_any d (G : Int) wx hw hd (by rw [Int.natAbs_natCast]; exact hGs) (by omega)
  rw [l1, zS_of_nat] at hd1
  rw [l2, zS_of_nat, zS_of_nat] at hd2
  have HS := Lib.hid hs
  obtain ⟨s, hs2⟩ : ∃ s, s = zS n := ⟨_, rfl⟩
  obtain ⟨t, ht⟩ : ∃ s, s = zS d := ⟨_, rfl⟩
  obtain ⟨ps, hps⟩ : ∃ s, s = zS (lowN n d.natAbs) := ⟨_, rfl⟩
  obtain ⟨qs, hqs⟩ : ∃ s, s = str (lowD n d.natAbs) := ⟨_, rfl⟩
  obtain ⟨gs, hgs⟩ : ∃ s, s = str G := ⟨_, rfl⟩
  obtain ⟨r1, hr1⟩ : ∃ s, s = zS (n.fmod (G : Int)) := ⟨_, rfl⟩
  obtain ⟨r2, hr2⟩ : ∃ s, s = zS (d.fmod (G : Int)) := ⟨_, rfl⟩
  rw [← hs2, ← ht] at HF ⊢
  rw [← hps, ← hqs]
  rw [← hs2, ← ht, ← hgs] at hg
  rw [← hs2, ← hgs, ← hps, ← hr1] at hd1
  rw [← ht, ← hgs, ← hqs, ← hr2] at hd2
  have HG := Lib.hid hg
  have HD1 := Lib.hid hd1
  have HD2 := Lib.hid hd2
  clear hs2 ht hps hqs hgs hr1 hr2 hn hd h0 hs hf hG l1 l2 l3 hGd hGs hg hd1 hd2
  go_enter Tryz.func71, Tryz.ntmps71
  go_wp2_with fail
  obtain ⟨W0, hW0⟩ : ∃ W0, W0 = w.alloc (.cells #[.string ⟨#[]⟩, .string ⟨#[]⟩] 24) := ⟨_, rfl⟩
  have HB := Lib.hid (Bz.new w)
  rw [← hW0] at HB ⊢
  clear hW0
  refine (HF.out _ (HS.out.below HB.out.below)).mono ?_
  rintro e w1 ⟨rfl, h1⟩
  have Z1 := Lib.hid (HB.out.to h1)
  have hlt := Z1.out.res.lt.2
  have A := BxT.new w1 w.heap.size Z1.out.below.size 78 (.int .i64 (0)) (.int .i64 (0))
  have cc0 := A.c0
  have cc1 := A.c1
  have R1 := Z1.out.res.alloc (.cells #[.int .i64 (0), .int .i64 (0)] 78)
  have D1 := Z1.out.below.alloc Z1.out.below.size (.cells #[.int .i64 (0), .int .i64 (0)] 78)
  have HZ := Lib.hid (show Bz w _ from ⟨D1, R1⟩)
  clear A R1 D1 h1
  go_wp2_with fail
  refine (HG.out _ (HS.out.below HZ.out.below)).mono ?_
  rintro e w2 ⟨rfl, h2⟩
  have Z2 := Lib.hid (HZ.out.to h2)
  clear h2
  go_wp2_with fail
  refine (HD1.out _ (HS.out.below Z2.out.below)).mono ?_
  rintro e w3 ⟨rfl, h3⟩
  have Z3 := Lib.hid (Z2.out.to h3)
  clear h3
  go_wp2_with fail
  refine (HD2.out _ (HS.out.below Z3.out.below)).mono ?_
  rintro e w4 ⟨rfl, h4⟩
  have Z4 := Lib.hid (Z3.out.to h4)
  clear h4
  have hf0 := Z4.out.res.free 0
  have he0 := Z4.out.res.c0
  have he1 := Z4.out.res.c1
  have hS0 := Z4.out.res.set0 (.string ps)
  have hS1 := hS0.set1 (.string qs)
  have hf1 := hS0.free 1
  have hg1 := hS0.c1
  have hk0 := hS1.c0
  have hk1 := hS1.c1
  have HBE := Lib.hid ((Z4.out.below.setCell (p := ⟨w.heap.size, 0, none⟩) (Nat.le_refl _) (.string ps)).setCell (p := ⟨w.heap.size, 1, none⟩) (Nat.le_refl _) (.string qs))
  clear hS0 hS1
  go_wp2_with fail
  (try simp only [Exit.inBlock, Exit.then])
  refine bodyPost_ret (v := .tuple #[ratV ps qs, .int .i64 0]) ?_ rfl ⟨rfl, HBE.out⟩
  rw [results_cell_tmp rfl]
  go_simp
theorem lowestF_any (n d : Int) (w : World) (hs : Std w) (h0 : 0 < d) (hn : (str n.natAbs).size ≤ 400000) (hd : (str d.natAbs).size ≤ 400000) :
    Calls Tryz.prog 71 #[.string (zS n), .string (zS d)] w fun e w' => e = .returned (.tuple #[ratV (zS (lowN n d.natAbs)) (str (lowD n d.natAbs)), .int .i64 0]) ∧ Below w.heap.size w w' := by
  by_cases h : fewOk n d
  · exact lowestF_few n d w hs h h0 hn hd
  · exact lowestF_far n d w hs h h0 hn hd
end Go.Proofs.YtgkfdgdlmpggpaaGreatDoor

namespace Go.Proofs.YtgkfdgdlmpggpaaGreatDoor

def cmpP (p q : Int × Nat) : Int := cmpZ (p.1 * (q.2 : Int)) (q.1 * (p.2 : Int))
theorem cmpZ_sgn (x y : Int) : cmpZ x y = sgnI (x - y) := by
  unfold cmpZ sgnI
  by_cases h1 : x < y
  · rw [if_pos h1, if_neg (by omega), if_pos (by omega)]
  · by_cases h2 : y < x
    · rw [if_neg h1, if_pos h2, if_neg (by omega), if_neg (by omega)]
    · rw [if_neg h1, if_neg h2, if_pos (by omega)]
theorem sgnI_pos {z : Int} (h : 0 < z) : sgnI z = 1 := by unfold sgnI; rw [if_neg (by omega), if_neg (by omega)]
theorem sgnI_neg' {z : Int} (h : z < 0) : sgnI z = -1 := by unfold sgnI; rw [if_neg (by omega), if_pos h]
theorem sgnI_zero : sgnI 0 = 0 := rfl
theorem sgnI_mul (x y : Int) : sgnI (x * y) = sgnI x * sgnI y := by
  rcases (by omega : x < 0 ∨ x = 0 ∨ 0 < x) with h | h | h
  · rcases (by omega : y < 0 ∨ y = 0 ∨ 0 < y) with k | k | k
    · rw [sgnI_neg' h, sgnI_neg' k, sgnI_pos (Int.mul_pos_of_neg_of_neg h k)]; rfl
    · rw [k, Int.mul_zero, sgnI_zero, Int.mul_zero]
    · rw [sgnI_neg' h, sgnI_pos k, sgnI_neg' (Int.mul_neg_of_neg_of_pos h k)]; rfl
  · rw [h, Int.zero_mul, sgnI_zero, Int.zero_mul]
  · rcases (by omega : y < 0 ∨ y = 0 ∨ 0 < y) with k | k | k
    · rw [sgnI_pos h, sgnI_neg' k, sgnI_neg' (Int.mul_neg_of_pos_of_neg h k)]; rfl
    · rw [k, Int.mul_zero, sgnI_zero, Int.mul_zero]
    · rw [sgnI_pos h, sgnI_pos k, sgnI_pos (Int.mul_pos h k)]; rfl
theorem sgnI_nat {d : Nat} (h : 0 < d) : sgnI (d : Int) = 1 := sgnI_pos (by omega)
theorem cmpP_sgn (p q : Int × Nat) : cmpP p q = sgnI (p.1 * (q.2 : Int) - q.1 * (p.2 : Int)) := cmpZ_sgn _ _
theorem cmpP_left {p p' q : Int × Nat} (hp : 0 < p.2) (hp' : 0 < p'.2) (h : Eqv p p') : cmpP p q = cmpP p' q := by
  rw [cmpP_sgn, cmpP_sgn]
  have e : (p.1 * (q.2 : Int) - q.1 * (p.2 : Int)) * (p'.2 : Int) = (p'.1 * (q.2 : Int) - q.1 * (p'.2 : Int)) * (p.2 : Int) := by
    unfold Eqv at h; grind
  have e1 := congrArg sgnI e
  rw [sgnI_mul, sgnI_mul, sgnI_nat hp, sgnI_nat hp', Int.mul_one, Int.mul_one] at e1
  exact e1
theorem cmpP_right {p q q' : Int × Nat} (hq : 0 < q.2) (hq' : 0 < q'.2) (h : Eqv q q') : cmpP p q = cmpP p q' := by
  rw [cmpP_sgn, cmpP_sgn]
  have e : (p.1 * (q.2 : Int) - q.1 * (p.2 : Int)) * (q'.2 : Int) = (p.1 * (q'.2 : Int) - q'.1 * (p.2 : Int)) * (q.2 : Int) := by
    unfold Eqv at h; grind
  have e1 := congrArg sgnI e
  rw [sgnI_mul, sgnI_mul, sgnI_nat hq, sgnI_nat hq', Int.mul_one, Int.mul_one] at e1
  exact e1
theorem cmpP_add {p q r : Int × Nat} (hp : FrP p) (hq : FrP q) (hr : FrP r) : cmpP (addP p r) (addP q r) = cmpP p q := by
  have a := hp.pos
  have b := hq.pos
  have c := hr.pos
  rw [cmpP_left (addP_right hp hr).pos (Nat.mul_pos a c) (lo_eqv (p.1 * (r.2 : Int) + r.1 * (p.2 : Int)) (p.2 * r.2)), cmpP_right (addP_right hq hr).pos (Nat.mul_pos b c) (lo_eqv (q.1 * (r.2 : Int) + r.1 * (q.2 : Int)) (q.2 * r.2)), cmpP_sgn, cmpP_sgn]
  have e : (p.1 * (r.2 : Int) + r.1 * (p.2 : Int)) * ((q.2 * r.2 : Nat) : Int) - (q.1 * (r.2 : Int) + r.1 * (q.2 : Int)) * ((p.2 * r.2 : Nat) : Int) = (p.1 * (q.2 : Int) - q.1 * (p.2 : Int)) * ((r.2 : Int) * (r.2 : Int)) := by push_cast; grind
  show sgnI ((p.1 * (r.2 : Int) + r.1 * (p.2 : Int)) * ((q.2 * r.2 : Nat) : Int) - (q.1 * (r.2 : Int) + r.1 * (q.2 : Int)) * ((p.2 * r.2 : Nat) : Int)) = _
  rw [e, sgnI_mul, sgnI_mul, sgnI_nat c, Int.mul_one, Int.mul_one]
theorem cmpP_mul {p q r : Int × Nat} (hp : FrP p) (hq : FrP q) (hr : FrP r) : cmpP (mulP p r) (mulP q r) = cmpP p q * sgnI r.1 := by
  have a := hp.pos
  have b := hq.pos
  have c := hr.pos
  rw [cmpP_left (mulP_right hp hr).pos (Nat.mul_pos a c) (lo_eqv (p.1 * r.1) (p.2 * r.2)), cmpP_right (mulP_right hq hr).pos (Nat.mul_pos b c) (lo_eqv (q.1 * r.1) (q.2 * r.2)), cmpP_sgn, cmpP_sgn]
  show sgnI (p.1 * r.1 * ((q.2 * r.2 : Nat) : Int) - q.1 * r.1 * ((p.2 * r.2 : Nat) : Int)) = _
  rw [show p.1 * r.1 * ((q.2 * r.2 : Nat) : Int) - q.1 * r.1 * ((p.2 * r.2 : Nat) : Int) = (p.1 * (q.2 : Int) - q.1 * (p.2 : Int)) * r.1 * (r.2 : Int) by push_cast; grind, sgnI_mul, sgnI_mul, sgnI_nat c, Int.mul_one]
/-- the inverse of a fraction that is not 0 -/
def invP (p : Int × Nat) : Int × Nat := (sgnI p.1 * (p.2 : Int), p.1.natAbs)
theorem sgnI_abs {z : Int} (h : z ≠ 0) : (sgnI z).natAbs = 1 ∧ z = sgnI z * (z.natAbs : Int) := by
  rcases (by omega : z < 0 ∨ 0 < z) with k | k
  · rw [sgnI_neg' k]; exact ⟨rfl, by omega⟩
  · rw [sgnI_pos k]; exact ⟨rfl, by omega⟩
theorem invP_right {p : Int × Nat} (hp : FrP p) (h : p.1 ≠ 0) : FrP (invP p) := by
  refine ⟨by show 0 < p.1.natAbs; omega, ?_⟩
  show Nat.gcd (sgnI p.1 * (p.2 : Int)).natAbs p.1.natAbs = 1
  rw [Int.natAbs_mul, (sgnI_abs h).1, Nat.one_mul, Int.natAbs_natCast, Nat.gcd_comm]; exact hp.one
theorem div_back {p q : Int × Nat} (hp : FrP p) (hq : FrP q) (h : q.1 ≠ 0) : mulP (mulP p (invP q)) q = p := by
  have a := hp.pos
  have b := hq.pos
  have c := (invP_right hq h).pos
  refine Eqv.eq (mulP_right (mulP_right hp (invP_right hq h)) hq) hp ?_
  have e1 := Eqv.mul (lo_eqv (p.1 * (invP q).1) (p.2 * (invP q).2)) (Eqv.refl q)
  refine Eqv.trans ?_ (lo_eqv _ _) (Eqv.trans ?_ e1 ?_)
  · exact Nat.mul_pos (lo_right _ (Nat.mul_pos a c)).pos b
  · exact Nat.mul_pos (Nat.mul_pos a c) b
  · unfold Eqv
    show p.1 * (sgnI q.1 * (q.2 : Int)) * q.1 * (p.2 : Int) = p.1 * ((p.2 * q.1.natAbs * q.2 : Nat) : Int)
    have hm : (q.1.natAbs : Int) = sgnI q.1 * q.1 := by
      rcases (by omega : q.1 < 0 ∨ 0 < q.1) with k | k
      · rw [sgnI_neg' k]; omega
      · rw [sgnI_pos k]; omega
    rw [Int.natCast_mul, Int.natCast_mul, hm]
    grind
end Go.Proofs.YtgkfdgdlmpggpaaGreatDoor

namespace Go.Proofs.YtgkfdgdlmpggpaaGreatDoor
open Go.RowKit

theorem zero_tlF (z : Int) (h : (str z.natAbs).size ≤ 1000000) : ((zS z).toList == [48]) = decide (z = 0) := (zF z h).zero
set_option maxHeartbeats 800000 in
theorem newF_zero (n : Int) (w : World) :
    Calls Tryz.prog 21 #[.string (zS n), .string (zS 0)] w fun e w' => e = .returned (.tuple #[ratV ⟨#[]⟩ ⟨#[]⟩, .int .i64 17]) ∧ Below w.heap.size w w' := by
  have hz : ((zS 0).toList == [48]) = true := zero_tlF 0 (Nat.le_trans (str_big (n := 1) (by decide) (by decide)) (by decide))
  obtain ⟨s, hs⟩ : ∃ s, s = zS n := ⟨_, rfl⟩
  obtain ⟨t, ht⟩ : ∃ s, s = zS 0 := ⟨_, rfl⟩
  rw [← hs]
  rw [← ht] at hz ⊢
  have HB := Lib.hid ((Below.refl _ w).alloc (Nat.le_refl _) (.cells #[.string ⟨#[]⟩, .string ⟨#[]⟩] 24))
  clear hs ht
  go_enter Tryz.func21, Tryz.ntmps21
  go_wp2_with fail
  (try simp only [Exit.inBlock, Exit.then])
  refine bodyPost_ret (v := .tuple #[ratV ⟨#[]⟩ ⟨#[]⟩, .int .i64 17]) ?_ rfl ⟨rfl, HB.out⟩
  rw [results_cell_tmp rfl]
  go_simp
set_option maxHeartbeats 1600000 in
theorem newF_pos (n d : Int) (w : World) (hs : Std w) (h0 : 0 < d) (hn : (str n.natAbs).size ≤ 400000) (hd : (str d.natAbs).size ≤ 400000) :
    Calls Tryz.prog 21 #[.string (zS n), .string (zS d)] w fun e w' => e = .returned (.tuple #[ratV (zS (lowN n d.natAbs)) (str (lowD n d.natAbs)), .int .i64 0]) ∧ Below w.heap.size w w' := by
  have hz := zero_tlF d (by omega)
  rw [decide_eq_false (by omega)] at hz
  have hsg := fun wx => sign_any d wx (by omega)
  rw [sgnI_pos h0] at hsg
  have HSG := Lib.hid hsg
  have HL := Lib.hid (fun wx hw => lowestF_any n d wx hw h0 hn hd)
  have HS := Lib.hid hs
  obtain ⟨s, hs2⟩ : ∃ s, s = zS n := ⟨_, rfl⟩
  obtain ⟨t, ht⟩ : ∃ s, s = zS d := ⟨_, rfl⟩
  obtain ⟨ps, hps⟩ : ∃ s, s = zS (lowN n d.natAbs) := ⟨_, rfl⟩
  obtain ⟨qs, hqs⟩ : ∃ s, s = str (lowD n d.natAbs) := ⟨_, rfl⟩
  rw [← hs2, ← ht, ← hps, ← hqs] at HL
  rw [← ht] at HSG hz
  rw [← hs2, ← ht, ← hps, ← hqs]
  clear hs2 ht hps hqs hn hd h0 hs hsg
  go_enter Tryz.func21, Tryz.ntmps21
  go_wp2_with fail
  obtain ⟨W0, hW0⟩ : ∃ W0, W0 = w.alloc (.cells #[.string ⟨#[]⟩, .string ⟨#[]⟩] 24) := ⟨_, rfl⟩
  have HB := Lib.hid (Bz.new w)
  rw [← hW0] at HB ⊢
  clear hW0
  refine (HSG.out _).mono ?_
  rintro e w1 ⟨rfl, rfl⟩
  go_wp2_with fail
  refine (HL.out _ (HS.out.below HB.out.below)).mono ?_
  rintro e w2 ⟨rfl, h2⟩
  have Z2 := Lib.hid (HB.out.to h2)
  clear h2
  have hf0 := Z2.out.res.free 0
  have he0 := Z2.out.res.c0
  have he1 := Z2.out.res.c1
  have hS0 := Z2.out.res.set0 (.string ps)
  have hS1 := hS0.set1 (.string qs)
  have hf1 := hS0.free 1
  have hg1 := hS0.c1
  have hk0 := hS1.c0
  have hk1 := hS1.c1
  have HBE := Lib.hid ((Z2.out.below.setCell (p := ⟨w.heap.size, 0, none⟩) (Nat.le_refl _) (.string ps)).setCell (p := ⟨w.heap.size, 1, none⟩) (Nat.le_refl _) (.string qs))
  clear hS0 hS1
  go_wp2_with fail
  (try simp only [Exit.inBlock, Exit.then])
  refine bodyPost_ret (v := .tuple #[ratV ps qs, .int .i64 0]) ?_ rfl ⟨rfl, HBE.out⟩
  rw [results_cell_tmp rfl]
  go_simp
set_option maxHeartbeats 1600000 in
theorem newF_neg (n d : Int) (w : World) (hs : Std w) (h0 : d < 0) (hn : (str n.natAbs).size ≤ 400000) (hd : (str d.natAbs).size ≤ 400000) :
    Calls Tryz.prog 21 #[.string (zS n), .string (zS d)] w fun e w' => e = .returned (.tuple #[ratV (zS (lowN (-n) d.natAbs)) (str (lowD (-n) d.natAbs)), .int .i64 0]) ∧ Below w.heap.size w w' := by
  have hz := zero_tlF d (by omega)
  rw [decide_eq_false (by omega)] at hz
  have hsg := fun wx => sign_any d wx (by omega)
  rw [sgnI_neg' h0] at hsg
  have HSG := Lib.hid hsg
  have HN1 := Lib.hid (fun wx => neg_any n wx (by omega))
  have HN2 := Lib.hid (fun wx => neg_any d wx (by omega))
  have hl := fun wx hw => lowestF_any (-n) (-d) wx hw (by omega) (by rw [Int.natAbs_neg]; exact hn) (by rw [Int.natAbs_neg]; exact hd)
  rw [Int.natAbs_neg] at hl
  have HL := Lib.hid hl
  have HS := Lib.hid hs
  obtain ⟨s, hs2⟩ : ∃ s, s = zS n := ⟨_, rfl⟩
  obtain ⟨t, ht⟩ : ∃ s, s = zS d := ⟨_, rfl⟩
  obtain ⟨s', hs3⟩ : ∃ s, s = zS (-n) := ⟨_, rfl⟩
  obtain ⟨t', ht3⟩ : ∃ s, s = zS (-d) := ⟨_, rfl⟩
  obtain ⟨ps, hps⟩ : ∃ s, s = zS (lowN (-n) d.natAbs) := ⟨_, rfl⟩
  obtain ⟨qs, hqs⟩ : ∃ s, s = str (lowD (-n) d.natAbs) := ⟨_, rfl⟩
  rw [← hs3, ← ht3, ← hps, ← hqs] at HL
  rw [← hs2, ← hs3] at HN1
  rw [← ht, ← ht3] at HN2
  rw [← ht] at HSG hz
  rw [← hs2, ← ht, ← hps, ← hqs]
  clear hs2 ht hs3 ht3 hps hqs hn hd h0 hs hsg hl
  go_enter Tryz.func21, Tryz.ntmps21
  go_wp2_with fail
  obtain ⟨W0, hW0⟩ : ∃ W0, W0 = w.alloc (.cells #[.string ⟨#[]⟩, .string ⟨#[]⟩] 24) := ⟨_, rfl⟩
  have HB := Lib.hid (Bz.new w)
  rw [← hW0] at HB ⊢
  clear hW0
  refine (HSG.out _).mono ?_
  rintro e w1 ⟨rfl, rfl⟩
  go_wp2_with fail
  refine (HN1.out _).mono ?_
  rintro e w2 ⟨rfl, h2⟩
  have Z2 := Lib.hid (HB.out.to h2)
  clear h2
  go_wp2_with fail
  refine (HN2.out _).mono ?_
  rintro e w3 ⟨rfl, h3⟩
  have Z3 := Lib.hid (Z2.out.to h3)
  clear h3
  go_wp2_with fail
  refine (HL.out _ (HS.out.below Z3.out.below)).mono ?_
  rintro e w4 ⟨rfl, h4⟩
  have Z4 := Lib.hid (Z3.out.to h4)
  clear h4
  have hf0 := Z4.out.res.free 0
  have he0 := Z4.out.res.c0
  have he1 := Z4.out.res.c1
  have hS0 := Z4.out.res.set0 (.string ps)
  have hS1 := hS0.set1 (.string qs)
  have hf1 := hS0.free 1
  have hg1 := hS0.c1
  have hk0 := hS1.c0
  have hk1 := hS1.c1
  have HBE := Lib.hid ((Z4.out.below.setCell (p := ⟨w.heap.size, 0, none⟩) (Nat.le_refl _) (.string ps)).setCell (p := ⟨w.heap.size, 1, none⟩) (Nat.le_refl _) (.string qs))
  clear hS0 hS1
  go_wp2_with fail
  (try simp only [Exit.inBlock, Exit.then])
  refine bodyPost_ret (v := .tuple #[ratV ps qs, .int .i64 0]) ?_ rfl ⟨rfl, HBE.out⟩
  rw [results_cell_tmp rfl]
  go_simp
end Go.Proofs.YtgkfdgdlmpggpaaGreatDoor

namespace Go.Proofs.YtgkfdgdlmpggpaaGreatDoor
open Go.RowKit

def newN (n d : Int) : Int := if d < 0 then lowN (-n) d.natAbs else lowN n d.natAbs
def newD (n d : Int) : Nat := if d < 0 then lowD (-n) d.natAbs else lowD n d.natAbs
/-- what New answers, and its error -/
def newS (n d : Int) : ByteArray := if d = 0 then ⟨#[]⟩ else zS (newN n d)
def newT (n d : Int) : ByteArray := if d = 0 then ⟨#[]⟩ else str (newD n d)
def newE (d : Int) : Int := if d = 0 then 17 else 0
theorem newF_any (n d : Int) (w : World) (hs : Std w) (hn : (str n.natAbs).size ≤ 400000) (hd : (str d.natAbs).size ≤ 400000) :
    Calls Tryz.prog 21 #[.string (zS n), .string (zS d)] w fun e w' => e = .returned (.tuple #[ratV (newS n d) (newT n d), .int .i64 (newE d)]) ∧ Below w.heap.size w w' := by
  rcases (by omega : d = 0 ∨ d < 0 ∨ 0 < d) with h | h | h
  · subst h; exact newF_zero n w
  · have e1 : newS n d = zS (lowN (-n) d.natAbs) := by unfold newS newN; rw [if_neg (by omega), if_pos h]
    have e2 : newT n d = str (lowD (-n) d.natAbs) := by unfold newT newD; rw [if_neg (by omega), if_pos h]
    have e3 : newE d = 0 := by unfold newE; rw [if_neg (by omega)]
    rw [e1, e2, e3]; exact newF_neg n d w hs h hn hd
  · have e1 : newS n d = zS (lowN n d.natAbs) := by unfold newS newN; rw [if_neg (by omega), if_neg (by omega)]
    have e2 : newT n d = str (lowD n d.natAbs) := by unfold newT newD; rw [if_neg (by omega), if_neg (by omega)]
    have e3 : newE d = 0 := by unfold newE; rw [if_neg (by omega)]
    rw [e1, e2, e3]; exact newF_pos n d w hs h hn hd
set_option maxHeartbeats 1600000 in
theorem ofF_any (n d : Int) (w : World) (hs : Std w) (a1 : -9223372036854775808 ≤ n) (a2 : n ≤ 9223372036854775807) (b1 : -9223372036854775808 ≤ d) (b2 : d ≤ 9223372036854775807) :
    Calls Tryz.prog 22 #[.int .i64 n, .int .i64 d] w fun e w' => e = .returned (.tuple #[ratV (newS n d) (newT n d), .int .i64 (newE d)]) ∧ Below w.heap.size w w' := by
  have h63 := fun (z : Int) (h1 : -9223372036854775808 ≤ z) (h2 : z ≤ 9223372036854775807) => (Nat.le_trans (str_big (a := z.natAbs) (n := 19) (by omega) (by decide)) (by decide) : (str z.natAbs).size ≤ 400000)
  have HO1 := Lib.hid (fun wx hw => ofW_any n wx hw a1 a2)
  have HO2 := Lib.hid (fun wx hw => ofW_any d wx hw b1 b2)
  have HNW := Lib.hid (fun wx hw => newF_any n d wx hw (h63 n a1 a2) (h63 d b1 b2))
  have HS := Lib.hid hs
  obtain ⟨s, hs2⟩ : ∃ s, s = zS n := ⟨_, rfl⟩
  obtain ⟨t, ht⟩ : ∃ s, s = zS d := ⟨_, rfl⟩
  obtain ⟨ps, hps⟩ : ∃ s, s = newS n d := ⟨_, rfl⟩
  obtain ⟨qs, hqs⟩ : ∃ s, s = newT n d := ⟨_, rfl⟩
  obtain ⟨E, hE⟩ : ∃ E, E = newE d := ⟨_, rfl⟩
  rw [← hs2] at HO1 HNW
  rw [← ht] at HO2 HNW
  rw [← hps, ← hqs, ← hE] at HNW ⊢
  clear hs2 ht hps hqs hE hs h63
  go_enter Tryz.func22, Tryz.ntmps22
  go_wp2_with fail
  obtain ⟨W0, hW0⟩ : ∃ W0, W0 = w.alloc (.cells #[.string ⟨#[]⟩, .string ⟨#[]⟩] 24) := ⟨_, rfl⟩
  have HB := Lib.hid (Bz.new w)
  rw [← hW0] at HB ⊢
  clear hW0
  refine (HO1.out _ (HS.out.below HB.out.below)).mono ?_
  rintro e w1 ⟨rfl, h1⟩
  have Z1 := Lib.hid (HB.out.to h1)
  clear h1
  go_wp2_with fail
  refine (HO2.out _ (HS.out.below Z1.out.below)).mono ?_
  rintro e w2 ⟨rfl, h2⟩
  have Z2 := Lib.hid (Z1.out.to h2)
  clear h2
  go_wp2_with fail
  refine (HNW.out _ (HS.out.below Z2.out.below)).mono ?_
  rintro e w3 ⟨rfl, h3⟩
  have Z3 := Lib.hid (Z2.out.to h3)
  clear h3
  have hf0 := Z3.out.res.free 0
  have he0 := Z3.out.res.c0
  have he1 := Z3.out.res.c1
  have hS0 := Z3.out.res.set0 (.string ps)
  have hS1 := hS0.set1 (.string qs)
  have hf1 := hS0.free 1
  have hg1 := hS0.c1
  have hk0 := hS1.c0
  have hk1 := hS1.c1
  have HBE := Lib.hid ((Z3.out.below.setCell (p := ⟨w.heap.size, 0, none⟩) (Nat.le_refl _) (.string ps)).setCell (p := ⟨w.heap.size, 1, none⟩) (Nat.le_refl _) (.string qs))
  clear hS0 hS1
  go_wp2_with fail
  (try simp only [Exit.inBlock, Exit.then])
  refine bodyPost_ret (v := .tuple #[ratV ps qs, .int .i64 E]) ?_ rfl ⟨rfl, HBE.out⟩
  rw [results_cell_tmp rfl]
  go_simp
end Go.Proofs.YtgkfdgdlmpggpaaGreatDoor
