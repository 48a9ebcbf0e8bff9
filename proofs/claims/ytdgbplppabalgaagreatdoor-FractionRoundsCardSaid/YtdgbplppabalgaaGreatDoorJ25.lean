/-
  Texts of one seat, joined: YPlT YPlain3 YOps2 YFits3.
-/
import Derived.Test.YtdgbplppabalgaaGreatDoorJ15
import Derived.Test.YtdgbplppabalgaaGreatDoorJ20
import Derived.Test.YtdgbplppabalgaaGreatDoorJ14
import Derived.Test.YtdgbplppabalgaaGreatDoorJ11
import Derived.Test.YtdgbplppabalgaaGreatDoorJ19
import Derived.Test.YtdgbplppabalgaaGreatDoorJ24
import Derived.LoopN
namespace Go.Proofs.YtdgbplppabalgaaGreatDoor
open Go.RowKit

theorem str_all2 (n : Nat) : (str n).data.toList.all isD = true := by
  have h := zCan_zS (n : Int)
  unfold zCan at h
  rw [Bool.and_eq_true] at h
  rw [magB_zS, Int.natAbs_natCast] at h
  have h1 := h.1
  unfold canonL at h1
  rw [Bool.and_eq_true] at h1
  exact h1.2
theorem digL_str (n : Nat) : digL (str n).data.toList = true := by
  unfold digL
  rw [str_all2, Bool.true_and, Bool.not_eq_true']
  cases e : (str n).data.toList with
  | nil =>
    have h := zCan_zS (n : Int)
    unfold zCan at h
    rw [Bool.and_eq_true, magB_zS, Int.natAbs_natCast, e] at h
    exact absurd h.1 (by decide)
  | cons a l => rfl
theorem not_mem_str {x : UInt8} (hx : isD x = false) (n : Nat) : x ∉ (str n).data.toList := by
  intro h
  have := List.all_eq_true.1 (str_all2 n) x h
  rw [hx] at this; cases this
theorem not_mem_zS {x : UInt8} (hx : isD x = false) (h45 : x ≠ 45) (z : Int) : x ∉ (zS z).data.toList := by
  by_cases h : z < 0
  · rw [zS_neg h, cat_list]
    intro k
    rcases List.mem_append.1 k with k | k
    · exact h45 (List.mem_singleton.1 k)
    · exact not_mem_str hx _ k
  · rw [zS_pos h]; exact not_mem_str hx _
theorem sgN_zS (z : Int) : sgN (negB (zS z)) (val (magB (zS z)).data.toList) = z := by
  have h := zV_zS z
  unfold zV at h
  unfold sgN
  exact h
theorem mk_eq {s : ByteArray} {l : List UInt8} (h : s.data.toList = l) : (⟨l.toArray⟩ : ByteArray) = s := by subst h; simp
theorem parO_text {n : Int} {d : Nat} (h : Fr n d) (hs : (rtxt (zS n) (str d)).size ≤ 400) : parO (rtxt (zS n) (str d)) = (zS n, str d, 0) := by
  have hp := h.pos
  have hlow := low_self h
  have e1 : newS n (d : Int) = zS n := by unfold newS newN; rw [if_neg (by omega), if_neg (by omega), Int.natAbs_natCast, hlow.1]
  have e2 : newT n (d : Int) = str d := by unfold newT newD; rw [if_neg (by omega), if_neg (by omega), Int.natAbs_natCast, hlow.2]
  have e3 : newE (d : Int) = 0 := by unfold newE; rw [if_neg (by omega)]
  have hdm : digL (magB (zS n)).data.toList = true := by rw [magB_zS]; exact digL_str _
  by_cases hd : d = 1
  · have ho : str d = ⟨#[49]⟩ := by rw [hd]; exact strOne
    rw [rtxt_one ho] at hs ⊢
    rw [parO_one (by omega) (not_mem_zS (by decide) (by decide) n) (not_mem_zS (by decide) (by decide) n) hdm, sgN_zS]
    have : (1 : Int) = (d : Int) := by omega
    rw [this, e1, e2, e3]
  · have ho : ¬ str d = ⟨#[49]⟩ := str_one_iff hd
    rw [rtxt_far ho] at hs ⊢
    have hl : (zS n ++ ⟨#[47]⟩ ++ str d).data.toList = (zS n).data.toList ++ 47 :: (str d).data.toList := by
      rw [cat_list, cat_list]; show (zS n).data.toList ++ [47] ++ _ = _; simp
    have hb : (⟨(zS n).data.toList.toArray⟩ : ByteArray) = zS n := mk_eq rfl
    have hq := parO_rat (s := zS n ++ ⟨#[47]⟩ ++ str d) (b := (zS n).data.toList) (r := (str d).data.toList) (by omega) hl (by rw [hb]; exact hdm) (digL_str d)
    rw [hb, sgN_zS, val_str, e1, e2, e3] at hq
    exact hq
theorem ri_parts {s t : ByteArray} (h : riB s t = true) : ∃ (n : Int) (d : Nat), s = zS n ∧ t = str d ∧ Fr n d := by
  unfold riB at h
  simp only [Bool.and_eq_true, decide_eq_true_iff] at h
  obtain ⟨⟨⟨h1, h2⟩, h3⟩, h4⟩ := h
  obtain ⟨n, e1, hn⟩ := rgY_yes h1
  obtain ⟨d, e2, hd⟩ := rgY_yes h2
  rw [e2, zV_zS] at h3 h4
  rw [e1, zV_zS] at h4
  refine ⟨n, d.natAbs, e1, ?_, ⟨by omega, h4⟩⟩
  rw [e2, zS_pos (by omega)]
theorem ri_text {s t : ByteArray} (h : riB s t = true) (hs : s.size ≤ 60) (ht : t.size ≤ 60) : parO (rtxt s t) = (s, t, 0) := by
  obtain ⟨n, d, rfl, rfl, hf⟩ := ri_parts h
  refine parO_text hf ?_
  by_cases ho : str d = ⟨#[49]⟩
  · rw [rtxt_one ho]; omega
  · rw [rtxt_far ho, ByteArray.size_append, ByteArray.size_append]; show (zS n).size + 1 + (str d).size ≤ 400; omega
end Go.Proofs.YtdgbplppabalgaaGreatDoor

namespace Go.Proofs.YtdgbplppabalgaaGreatDoor

def floorP (p : Int × Nat) : Int := p.1.fdiv (p.2 : Int)
def restP (p : Int × Nat) : Int × Nat := (p.1.fmod (p.2 : Int), p.2)
def nearP (p : Int × Nat) : Int := (2 * p.1 + (p.2 : Int)).fdiv (2 * (p.2 : Int))
def roundP (p : Int × Nat) (g : Nat) : Int × Nat := lo (nearP (p.1 * (g : Int), p.2)) g
def absP (p : Int × Nat) : Int × Nat := ((p.1.natAbs : Int), p.2)
theorem fmod_pos (x : Int) {y : Int} (hy : 0 < y) : 0 ≤ x.fmod y ∧ x.fmod y < y := by
  rw [Int.fmod_eq_emod_of_nonneg _ (by omega)]
  exact ⟨Int.emod_nonneg _ (by omega), Int.emod_lt_of_pos _ hy⟩
theorem floor_rest {p : Int × Nat} (hp : FrP p) : addP (floorP p, 1) (restP p) = p := by
  have h := Int.fmod_add_mul_fdiv p.1 (p.2 : Int)
  have e : floorP p * (p.2 : Int) + p.1.fmod (p.2 : Int) * ((1 : Nat) : Int) = p.1 := by
    unfold floorP
    rw [Int.mul_comm]; push_cast; omega
  unfold addP restP
  show lo (floorP p * (p.2 : Int) + p.1.fmod (p.2 : Int) * ((1 : Nat) : Int)) (1 * p.2) = p
  rw [e, Nat.one_mul]
  exact Prod.ext (low_self hp).1 (low_self hp).2
theorem rest_right {p : Int × Nat} (hp : FrP p) : FrP (restP p) := by
  refine ⟨hp.pos, ?_⟩
  show Nat.gcd (p.1.fmod (p.2 : Int)).natAbs p.2 = 1
  have h := Int.fmod_def p.1 (p.2 : Int)
  apply Nat.dvd_antisymm _ (Nat.one_dvd _)
  rw [← hp.one]
  apply Nat.dvd_gcd
  · have h1 : ((Nat.gcd (p.1.fmod (p.2 : Int)).natAbs p.2 : Nat) : Int) ∣ p.1.fmod (p.2 : Int) := Int.ofNat_dvd_left.2 (Nat.gcd_dvd_left _ _)
    have h2 : ((Nat.gcd (p.1.fmod (p.2 : Int)).natAbs p.2 : Nat) : Int) ∣ (p.2 : Int) := Int.ofNat_dvd.2 (Nat.gcd_dvd_right _ _)
    have h3 := Int.dvd_add h1 (Int.dvd_mul_of_dvd_left (c := p.1.fdiv (p.2 : Int)) h2)
    rw [show p.1.fmod (p.2 : Int) + (p.2 : Int) * p.1.fdiv (p.2 : Int) = p.1 by omega] at h3
    exact Int.ofNat_dvd_left.1 h3
  · exact Nat.gcd_dvd_right _ _
theorem rest_low {p : Int × Nat} (hp : FrP p) : 0 ≤ (restP p).1 ∧ cmpP (restP p) (1, 1) = -1 := by
  have h := fmod_pos p.1 (y := (p.2 : Int)) (by have := hp.pos; omega)
  refine ⟨h.1, ?_⟩
  show cmpZ (p.1.fmod (p.2 : Int) * ((1 : Nat) : Int)) (1 * (p.2 : Int)) = -1
  unfold cmpZ
  rw [if_pos (by push_cast; omega)]
theorem near_mul (m : Int) {d : Nat} (hd : 0 < d) : nearP (m * (d : Int), d) = m := by
  show (2 * (m * (d : Int)) + (d : Int)).fdiv (2 * (d : Int)) = m
  have h := fl_unique (x := 2 * (m * (d : Int)) + (d : Int)) (y := 2 * (d : Int)) (q := m) (r := (d : Int)) (by grind) (by omega)
  exact h.1.symm
theorem round_right (p : Int × Nat) {g : Nat} (hg : 0 < g) : FrP (roundP p g) := lo_right _ hg
theorem round_round (p : Int × Nat) {g : Nat} (hg : 0 < g) : roundP (roundP p g) g = roundP p g := by
  have h := lo_eqv (nearP (p.1 * (g : Int), p.2)) g
  have hr := (round_right p hg).pos
  unfold Eqv at h
  have e : nearP ((roundP p g).1 * (g : Int), (roundP p g).2) = nearP (p.1 * (g : Int), p.2) := by
    have h2 : (roundP p g).1 * (g : Int) = nearP (p.1 * (g : Int), p.2) * ((roundP p g).2 : Int) := h
    rw [h2]; exact near_mul _ hr
  show lo (nearP ((roundP p g).1 * (g : Int), (roundP p g).2)) g = _
  rw [e]; rfl
theorem near_bound (p : Int × Nat) (hp : 0 < p.2) : 2 * (p.1 - nearP p * (p.2 : Int)).natAbs ≤ p.2 := by
  have h := Int.fmod_add_mul_fdiv (2 * p.1 + (p.2 : Int)) (2 * (p.2 : Int))
  have h2 := fmod_pos (2 * p.1 + (p.2 : Int)) (y := 2 * (p.2 : Int)) (by omega)
  have h3 : (2 * p.1 + (p.2 : Int)).fdiv (2 * (p.2 : Int)) = nearP p := rfl
  rw [h3] at h
  have e : 2 * (p.2 : Int) * nearP p = 2 * (nearP p * (p.2 : Int)) := by grind
  rw [e] at h
  obtain ⟨t, ht⟩ : ∃ t, t = nearP p * (p.2 : Int) := ⟨_, rfl⟩
  rw [← ht] at h ⊢
  omega
theorem round_near {p : Int × Nat} (hp : FrP p) {g : Nat} (hg : 0 < g) : cmpP (absP (addP p (negP (roundP p g)))) (lo 1 (2 * g)) ≤ 0 := by
  have a := hp.pos
  have b := (round_right p hg).pos
  have hs := addP_right hp (negP_right (round_right p hg))
  have hb := near_bound (p.1 * (g : Int), p.2) a
  obtain ⟨m, hm⟩ : ∃ m, m = nearP (p.1 * (g : Int), p.2) := ⟨_, rfl⟩
  have h := lo_eqv m g
  have e0 : roundP p g = lo m g := by rw [hm]; rfl
  rw [← hm] at hb
  -- the difference is (n g - m d) / (d g)
  have e1 : Eqv (addP p (negP (roundP p g))) (p.1 * (g : Int) - m * (p.2 : Int), p.2 * g) := by
    refine Eqv.trans ?_ (lo_eqv _ _) ?_
    · exact Nat.mul_pos a b
    · rw [e0]
      unfold Eqv negP at *
      push_cast
      have h' : (lo m g).1 * (g : Int) = m * ((lo m g).2 : Int) := h
      show (p.1 * ((lo m g).2 : Int) + -(lo m g).1 * (p.2 : Int)) * ((p.2 : Int) * (g : Int)) = (p.1 * (g : Int) - m * (p.2 : Int)) * ((p.2 : Int) * ((lo m g).2 : Int))
      grind
  obtain ⟨D, hD⟩ : ∃ D, D = addP p (negP (roundP p g)) := ⟨_, rfl⟩
  rw [← hD] at e1 hs ⊢
  have e2 : Eqv (absP D) (((p.1 * (g : Int) - m * (p.2 : Int)).natAbs : Int), p.2 * g) := by
    unfold Eqv at e1
    have := congrArg Int.natAbs e1
    rw [Int.natAbs_mul, Int.natAbs_mul, Int.natAbs_natCast, Int.natAbs_natCast] at this
    show ((D.1.natAbs : Nat) : Int) * ((p.2 * g : Nat) : Int) = (((p.1 * (g : Int) - m * (p.2 : Int)).natAbs : Nat) : Int) * ((D.2 : Nat) : Int)
    rw [← Int.natCast_mul, ← Int.natCast_mul]
    exact congrArg Int.ofNat this
  rw [cmpP_left (q := lo 1 (2 * g)) (show 0 < (absP D).2 from hs.pos) (Nat.mul_pos a hg) e2, cmpP_right (lo_right 1 (show 0 < 2 * g by omega)).pos (show 0 < ((1 : Int), 2 * g).2 by show 0 < 2 * g; omega) (lo_eqv 1 (2 * g))]
  show cmpZ (((p.1 * (g : Int) - m * (p.2 : Int)).natAbs : Int) * ((2 * g : Nat) : Int)) (1 * ((p.2 * g : Nat) : Int)) ≤ 0
  obtain ⟨k, hk⟩ : ∃ k, k = (p.1 * (g : Int) - m * (p.2 : Int)).natAbs := ⟨_, rfl⟩
  rw [← hk]
  have hb2 : 2 * k ≤ p.2 := by rw [hk]; exact hb
  have hb3 : 2 * k * g ≤ p.2 * g := Nat.mul_le_mul_right _ hb2
  have e3 : (k : Int) * ((2 * g : Nat) : Int) = ((2 * k * g : Nat) : Int) := by push_cast; grind
  rw [e3, Int.one_mul]
  unfold cmpZ
  by_cases q : ((2 * k * g : Nat) : Int) < ((p.2 * g : Nat) : Int)
  · rw [if_pos q]; decide
  · rw [if_neg q, if_neg (by omega)]; decide
end Go.Proofs.YtdgbplppabalgaaGreatDoor

namespace Go.Proofs.YtdgbplppabalgaaGreatDoor
open Go.RowKit

set_option maxHeartbeats 3200000 in
set_option maxRecDepth 100000 in
theorem subF_any (n1 d1 n2 d2 : Int) (w : World) (hs : Std w) (h1 : (str n1.natAbs).size ≤ 10000) (h2 : (str d1.natAbs).size ≤ 10000) (h3 : (str n2.natAbs).size ≤ 10000) (h4 : (str d2.natAbs).size ≤ 10000) (p1 : 0 < d1) (p2 : 0 < d2) :
    Calls Tryz.prog 34 #[ratV (zS n1) (zS d1), ratV (zS n2) (zS d2)] w fun e w' => e = .returned (ratV (zS (lowN (n1 * d2 + -n2 * d1) (d1 * d2).natAbs)) (str (lowD (n1 * d2 + -n2 * d1) (d1 * d2).natAbs))) ∧ Below w.heap.size w w' := by
  have HN := Lib.hid (fun wx => negF_any n2 (zS d2) wx (by omega))
  have HA := Lib.hid (fun wx (hw : Std wx) => addF_any n1 d1 (-n2) d2 wx hw h1 h2 (by rw [Int.natAbs_neg]; exact h3) h4 p1 p2)
  obtain ⟨rs, hrs⟩ : ∃ s, s = zS (lowN (n1 * d2 + -n2 * d1) (d1 * d2).natAbs) := ⟨_, rfl⟩
  obtain ⟨rt, hrt⟩ : ∃ s, s = str (lowD (n1 * d2 + -n2 * d1) (d1 * d2).natAbs) := ⟨_, rfl⟩
  rw [← hrs, ← hrt] at HA ⊢
  obtain ⟨s1, hs1⟩ : ∃ s, s = zS n1 := ⟨_, rfl⟩
  obtain ⟨t1, ht1⟩ : ∃ s, s = zS d1 := ⟨_, rfl⟩
  obtain ⟨s2, hs2⟩ : ∃ s, s = zS n2 := ⟨_, rfl⟩
  obtain ⟨t2, ht2⟩ : ∃ s, s = zS d2 := ⟨_, rfl⟩
  obtain ⟨s3, hs3⟩ : ∃ s, s = zS (-n2) := ⟨_, rfl⟩
  rw [← hs1, ← ht1, ← hs3, ← ht2] at HA
  rw [← hs2, ← hs3, ← ht2] at HN
  rw [← hs1, ← ht1, ← hs2, ← ht2]
  have HZ := Lib.hid (Bg.new w s1 t1 s2 t2)
  have HS := Lib.hid hs
  have HN2 := Lib.hid (show ∀ wx, Bg w wx s1 t1 s2 t2 → Calls Tryz.prog 36 #[ratV s2 t2] wx fun e w' => e = .returned (ratV s3 t2) ∧ Bg w w' s1 t1 s2 t2 from fun wx hx => (HN.out wx).mono fun _ _ h => ⟨h.1, hx.to h.2⟩)
  have HA2 := Lib.hid (show ∀ wx, Bg w wx s1 t1 s2 t2 → Calls Tryz.prog 33 #[ratV s1 t1, ratV s3 t2] wx fun e w' => e = .returned (ratV rs rt) ∧ Bg w w' s1 t1 s2 t2 from fun wx hx => (HA.out wx (HS.out.below hx.two.below)).mono fun _ _ h => ⟨h.1, hx.to h.2⟩)
  clear hs h1 h2 h3 h4 p1 p2 hs1 ht1 hs2 ht2 hs3 hrs hrt HN HA
  go_enter Tryz.func34, Tryz.ntmps34
  go_upto_region 1 with fail
  obtain ⟨W0, hW0⟩ : ∃ W0, W0 = ((w.alloc (ratO s1 t1)).alloc (ratO s2 t2)).alloc (.cells #[.string ⟨#[]⟩, .string ⟨#[]⟩] 24) := ⟨_, rfl⟩
  rw [← hW0] at HZ ⊢
  clear hW0
  have X2 := HZ.out.to (Below.drew (Below.refl _ _))
  have p0 := HZ.out.two.one.num
  have p1 := HZ.out.two.one.den
  have p2 := HZ.out.two.two.num
  have p3 := HZ.out.two.two.den
  go_region_with (first | (go_at_call 33; refine (HA2.out _ ?hb).mono ?_; (case hb => assumption); rintro e w2 ⟨rfl, hbz⟩; have hf0 := hbz.res.free 0; have he0 := hbz.res.c0; have he1 := hbz.res.c1; have hS0 := hbz.res.set0 (.string rs); have hS1 := hS0.set1 (.string rt); have hf1 := hS0.free 1; have hg1 := hS0.c1; have hk0 := hS1.c0; have hk1 := hS1.c1; have HBE := Lib.hid ((hbz.two.below.setCell (p := ⟨w.heap.size + 1 + 1, 0, none⟩) (by show w.heap.size ≤ w.heap.size + 1 + 1; omega) (.string rs)).setCell (p := ⟨w.heap.size + 1 + 1, 1, none⟩) (by show w.heap.size ≤ w.heap.size + 1 + 1; omega) (.string rt)); clear hS0 hS1) | (go_at_call 36; refine (HN2.out _ ?hb).mono ?_; (case hb => assumption); rintro e w1 ⟨rfl, hbx⟩; have hc0 := hbx.two.one.num; have hc1 := hbx.two.one.den; have hc2 := hbx.two.two.num; have hc3 := hbx.two.two.den))
  all_goals (
    go_wp2_with fail
    (try simp only [Exit.inBlock, Exit.then])
    refine bodyPost_ret (v := ratV rs rt) ?_ rfl ⟨rfl, HBE.out⟩
    rw [results_cell_one rfl]
    go_simp)
end Go.Proofs.YtdgbplppabalgaaGreatDoor

namespace Go.Proofs.YtdgbplppabalgaaGreatDoor
open Go.RowKit

set_option maxHeartbeats 3200000 in
set_option maxRecDepth 100000 in
theorem fits3_any (s0 t0 s1 t1 s2 t2 : ByteArray) (g : Nat) (w : World) (hs : Stf w) (hr : Rw w g [s0, t0, s1, t1, s2, t2]) :
    Calls Tryz.prog 26 #[.slice (some ⟨g, 0, none⟩) 3 3] w fun e w' => e = .returned (.bool (okF s0 t0 && okF s1 t1 && okF s2 t2)) ∧ Below w.heap.size w w' := by
  have HS := Lib.hid hs
  have HR0 := Lib.hid hr
  have HB0 := Lib.hid (Below.refl w.heap.size w)
  have HL0 := Lib.hid (fun wx => longF_any s0 t0 60 wx)
  have HL1 := Lib.hid (fun wx => longF_any s1 t1 60 wx)
  have HL2 := Lib.hid (fun wx => longF_any s2 t2 60 wx)
  clear hs hr
  cases l0 : longB s0 t0 60 with
  | true =>
    rw [l0] at HL0
    have hV := Lib.hid (show (okF s0 t0 && okF s1 t1 && okF s2 t2) = false by unfold okF; rw [l0]; rfl)
    obtain ⟨V, hVV⟩ : ∃ V, V = (okF s0 t0 && okF s1 t1 && okF s2 t2) := ⟨_, rfl⟩
    rw [← hVV] at hV ⊢
    clear hVV  l0
    go_enter Tryz.func26, Tryz.ntmps26
    go_wp2_with fail
    refine wp_loop_rounds 1 ?_
    rw [rounds_succ]
    have hc0 : w.cell? ⟨g, 0, none⟩ = some (.string s0) := HR0.out.get 0 (by show 0 < 6; decide)
    have hd0 : w.cell? ⟨g, 1, none⟩ = some (.string t0) := HR0.out.get 1 (by show 1 < 6; decide)
    go_wp2_with fail
    refine (HL0.out _).mono ?_
    rintro e w1 ⟨rfl, b1⟩
    have HB1 := Lib.hid (HB0.out.trans (b1.mono HB0.out.size))
    have HR1 := Lib.hid (HR0.out.below b1)
    clear b1 hc0 hd0
    go_wp2_with fail
    go_ret
    exact ⟨by rw [hV.out]; rfl, HB1.out⟩
  | false =>
    rw [l0] at HL0
    have HQ0 := Lib.hid (fun wx (hw : Std wx) => rightY_any s0 t0 wx hw (by have := okF_size l0; omega) (by have := okF_size l0; omega))
    cases r0 : riB s0 t0 with
    | false =>
      rw [r0] at HQ0
      have hV := Lib.hid (show (okF s0 t0 && okF s1 t1 && okF s2 t2) = false by unfold okF; rw [l0, r0]; rfl)
      obtain ⟨V, hVV⟩ : ∃ V, V = (okF s0 t0 && okF s1 t1 && okF s2 t2) := ⟨_, rfl⟩
      rw [← hVV] at hV ⊢
      clear hVV  l0 r0
      go_enter Tryz.func26, Tryz.ntmps26
      go_wp2_with fail
      refine wp_loop_rounds 1 ?_
      rw [rounds_succ]
      have hc0 : w.cell? ⟨g, 0, none⟩ = some (.string s0) := HR0.out.get 0 (by show 0 < 6; decide)
      have hd0 : w.cell? ⟨g, 1, none⟩ = some (.string t0) := HR0.out.get 1 (by show 1 < 6; decide)
      go_wp2_with fail
      refine (HL0.out _).mono ?_
      rintro e w1 ⟨rfl, b1⟩
      have HB1 := Lib.hid (HB0.out.trans (b1.mono HB0.out.size))
      have HR1 := Lib.hid (HR0.out.below b1)
      clear b1 hc0 hd0
      have hc1 : w1.cell? ⟨g, 0, none⟩ = some (.string s0) := HR1.out.get 0 (by show 0 < 6; decide)
      have hd1 : w1.cell? ⟨g, 1, none⟩ = some (.string t0) := HR1.out.get 1 (by show 1 < 6; decide)
      go_wp2_with fail
      refine (HQ0.out _ (HS.out.below HB1.out).std).mono ?_
      rintro e w2 ⟨rfl, b2⟩
      have HB2 := Lib.hid (HB1.out.trans (b2.mono HB1.out.size))
      have HR2 := Lib.hid (HR1.out.below b2)
      clear b2 hc1 hd1
      go_wp2_with fail
      go_ret
      exact ⟨by rw [hV.out]; rfl, HB2.out⟩
    | true =>
      rw [r0] at HQ0
      cases l1 : longB s1 t1 60 with
      | true =>
        rw [l1] at HL1
        have hV := Lib.hid (show (okF s0 t0 && okF s1 t1 && okF s2 t2) = false by unfold okF; rw [l0, r0, l1]; rfl)
        obtain ⟨V, hVV⟩ : ∃ V, V = (okF s0 t0 && okF s1 t1 && okF s2 t2) := ⟨_, rfl⟩
        rw [← hVV] at hV ⊢
        clear hVV l0 r0 l1
        go_enter Tryz.func26, Tryz.ntmps26
        go_wp2_with fail
        refine wp_loop_rounds 2 ?_
        rw [rounds_succ]
        have hc0 : w.cell? ⟨g, 0, none⟩ = some (.string s0) := HR0.out.get 0 (by show 0 < 6; decide)
        have hd0 : w.cell? ⟨g, 1, none⟩ = some (.string t0) := HR0.out.get 1 (by show 1 < 6; decide)
        go_wp2_with fail
        refine (HL0.out _).mono ?_
        rintro e w1 ⟨rfl, b1⟩
        have HB1 := Lib.hid (HB0.out.trans (b1.mono HB0.out.size))
        have HR1 := Lib.hid (HR0.out.below b1)
        clear b1 hc0 hd0
        have hc1 : w1.cell? ⟨g, 0, none⟩ = some (.string s0) := HR1.out.get 0 (by show 0 < 6; decide)
        have hd1 : w1.cell? ⟨g, 1, none⟩ = some (.string t0) := HR1.out.get 1 (by show 1 < 6; decide)
        go_wp2_with fail
        refine (HQ0.out _ (HS.out.below HB1.out).std).mono ?_
        rintro e w2 ⟨rfl, b2⟩
        have HB2 := Lib.hid (HB1.out.trans (b2.mono HB1.out.size))
        have HR2 := Lib.hid (HR1.out.below b2)
        clear b2 hc1 hd1
        go_wp2_with fail
        rw [rounds_succ]
        have hc2 : w2.cell? ⟨g, 2, none⟩ = some (.string s1) := HR2.out.get 2 (by show 2 < 6; decide)
        have hd2 : w2.cell? ⟨g, 3, none⟩ = some (.string t1) := HR2.out.get 3 (by show 3 < 6; decide)
        go_wp2_with fail
        refine (HL1.out _).mono ?_
        rintro e w3 ⟨rfl, b3⟩
        have HB3 := Lib.hid (HB2.out.trans (b3.mono HB2.out.size))
        have HR3 := Lib.hid (HR2.out.below b3)
        clear b3 hc2 hd2
        go_wp2_with fail
        go_ret
        exact ⟨by rw [hV.out]; rfl, HB3.out⟩
      | false =>
        rw [l1] at HL1
        have HQ1 := Lib.hid (fun wx (hw : Std wx) => rightY_any s1 t1 wx hw (by have := okF_size l1; omega) (by have := okF_size l1; omega))
        cases r1 : riB s1 t1 with
        | false =>
          rw [r1] at HQ1
          have hV := Lib.hid (show (okF s0 t0 && okF s1 t1 && okF s2 t2) = false by unfold okF; rw [l0, r0, l1, r1]; rfl)
          obtain ⟨V, hVV⟩ : ∃ V, V = (okF s0 t0 && okF s1 t1 && okF s2 t2) := ⟨_, rfl⟩
          rw [← hVV] at hV ⊢
          clear hVV l0 r0 l1 r1
          go_enter Tryz.func26, Tryz.ntmps26
          go_wp2_with fail
          refine wp_loop_rounds 2 ?_
          rw [rounds_succ]
          have hc0 : w.cell? ⟨g, 0, none⟩ = some (.string s0) := HR0.out.get 0 (by show 0 < 6; decide)
          have hd0 : w.cell? ⟨g, 1, none⟩ = some (.string t0) := HR0.out.get 1 (by show 1 < 6; decide)
          go_wp2_with fail
          refine (HL0.out _).mono ?_
          rintro e w1 ⟨rfl, b1⟩
          have HB1 := Lib.hid (HB0.out.trans (b1.mono HB0.out.size))
          have HR1 := Lib.hid (HR0.out.below b1)
          clear b1 hc0 hd0
          have hc1 : w1.cell? ⟨g, 0, none⟩ = some (.string s0) := HR1.out.get 0 (by show 0 < 6; decide)
          have hd1 : w1.cell? ⟨g, 1, none⟩ = some (.string t0) := HR1.out.get 1 (by show 1 < 6; decide)
          go_wp2_with fail
          refine (HQ0.out _ (HS.out.below HB1.out).std).mono ?_
          rintro e w2 ⟨rfl, b2⟩
          have HB2 := Lib.hid (HB1.out.trans (b2.mono HB1.out.size))
          have HR2 := Lib.hid (HR1.out.below b2)
          clear b2 hc1 hd1
          go_wp2_with fail
          rw [rounds_succ]
          have hc2 : w2.cell? ⟨g, 2, none⟩ = some (.string s1) := HR2.out.get 2 (by show 2 < 6; decide)
          have hd2 : w2.cell? ⟨g, 3, none⟩ = some (.string t1) := HR2.out.get 3 (by show 3 < 6; decide)
          go_wp2_with fail
          refine (HL1.out _).mono ?_
          rintro e w3 ⟨rfl, b3⟩
          have HB3 := Lib.hid (HB2.out.trans (b3.mono HB2.out.size))
          have HR3 := Lib.hid (HR2.out.below b3)
          clear b3 hc2 hd2
          have hc3 : w3.cell? ⟨g, 2, none⟩ = some (.string s1) := HR3.out.get 2 (by show 2 < 6; decide)
          have hd3 : w3.cell? ⟨g, 3, none⟩ = some (.string t1) := HR3.out.get 3 (by show 3 < 6; decide)
          go_wp2_with fail
          refine (HQ1.out _ (HS.out.below HB3.out).std).mono ?_
          rintro e w4 ⟨rfl, b4⟩
          have HB4 := Lib.hid (HB3.out.trans (b4.mono HB3.out.size))
          have HR4 := Lib.hid (HR3.out.below b4)
          clear b4 hc3 hd3
          go_wp2_with fail
          go_ret
          exact ⟨by rw [hV.out]; rfl, HB4.out⟩
        | true =>
          rw [r1] at HQ1
          cases l2 : longB s2 t2 60 with
          | true =>
            rw [l2] at HL2
            have hV := Lib.hid (show (okF s0 t0 && okF s1 t1 && okF s2 t2) = false by unfold okF; rw [l0, r0, l1, r1, l2]; rfl)
            obtain ⟨V, hVV⟩ : ∃ V, V = (okF s0 t0 && okF s1 t1 && okF s2 t2) := ⟨_, rfl⟩
            rw [← hVV] at hV ⊢
            clear hVV l0 r0 l1 r1 l2
            go_enter Tryz.func26, Tryz.ntmps26
            go_wp2_with fail
            refine wp_loop_rounds 3 ?_
            rw [rounds_succ]
            have hc0 : w.cell? ⟨g, 0, none⟩ = some (.string s0) := HR0.out.get 0 (by show 0 < 6; decide)
            have hd0 : w.cell? ⟨g, 1, none⟩ = some (.string t0) := HR0.out.get 1 (by show 1 < 6; decide)
            go_wp2_with fail
            refine (HL0.out _).mono ?_
            rintro e w1 ⟨rfl, b1⟩
            have HB1 := Lib.hid (HB0.out.trans (b1.mono HB0.out.size))
            have HR1 := Lib.hid (HR0.out.below b1)
            clear b1 hc0 hd0
            have hc1 : w1.cell? ⟨g, 0, none⟩ = some (.string s0) := HR1.out.get 0 (by show 0 < 6; decide)
            have hd1 : w1.cell? ⟨g, 1, none⟩ = some (.string t0) := HR1.out.get 1 (by show 1 < 6; decide)
            go_wp2_with fail
            refine (HQ0.out _ (HS.out.below HB1.out).std).mono ?_
            rintro e w2 ⟨rfl, b2⟩
            have HB2 := Lib.hid (HB1.out.trans (b2.mono HB1.out.size))
            have HR2 := Lib.hid (HR1.out.below b2)
            clear b2 hc1 hd1
            go_wp2_with fail
            rw [rounds_succ]
            have hc2 : w2.cell? ⟨g, 2, none⟩ = some (.string s1) := HR2.out.get 2 (by show 2 < 6; decide)
            have hd2 : w2.cell? ⟨g, 3, none⟩ = some (.string t1) := HR2.out.get 3 (by show 3 < 6; decide)
            go_wp2_with fail
            refine (HL1.out _).mono ?_
            rintro e w3 ⟨rfl, b3⟩
            have HB3 := Lib.hid (HB2.out.trans (b3.mono HB2.out.size))
            have HR3 := Lib.hid (HR2.out.below b3)
            clear b3 hc2 hd2
            have hc3 : w3.cell? ⟨g, 2, none⟩ = some (.string s1) := HR3.out.get 2 (by show 2 < 6; decide)
            have hd3 : w3.cell? ⟨g, 3, none⟩ = some (.string t1) := HR3.out.get 3 (by show 3 < 6; decide)
            go_wp2_with fail
            refine (HQ1.out _ (HS.out.below HB3.out).std).mono ?_
            rintro e w4 ⟨rfl, b4⟩
            have HB4 := Lib.hid (HB3.out.trans (b4.mono HB3.out.size))
            have HR4 := Lib.hid (HR3.out.below b4)
            clear b4 hc3 hd3
            go_wp2_with fail
            rw [rounds_succ]
            have hc4 : w4.cell? ⟨g, 4, none⟩ = some (.string s2) := HR4.out.get 4 (by show 4 < 6; decide)
            have hd4 : w4.cell? ⟨g, 5, none⟩ = some (.string t2) := HR4.out.get 5 (by show 5 < 6; decide)
            go_wp2_with fail
            refine (HL2.out _).mono ?_
            rintro e w5 ⟨rfl, b5⟩
            have HB5 := Lib.hid (HB4.out.trans (b5.mono HB4.out.size))
            have HR5 := Lib.hid (HR4.out.below b5)
            clear b5 hc4 hd4
            go_wp2_with fail
            go_ret
            exact ⟨by rw [hV.out]; rfl, HB5.out⟩
          | false =>
            rw [l2] at HL2
            have HQ2 := Lib.hid (fun wx (hw : Std wx) => rightY_any s2 t2 wx hw (by have := okF_size l2; omega) (by have := okF_size l2; omega))
            cases r2 : riB s2 t2 with
            | false =>
              rw [r2] at HQ2
              have hV := Lib.hid (show (okF s0 t0 && okF s1 t1 && okF s2 t2) = false by unfold okF; rw [l0, r0, l1, r1, l2, r2]; rfl)
              obtain ⟨V, hVV⟩ : ∃ V, V = (okF s0 t0 && okF s1 t1 && okF s2 t2) := ⟨_, rfl⟩
              rw [← hVV] at hV ⊢
              clear hVV l0 r0 l1 r1 l2 r2
              go_enter Tryz.func26, Tryz.ntmps26
              go_wp2_with fail
              refine wp_loop_rounds 3 ?_
              rw [rounds_succ]
              have hc0 : w.cell? ⟨g, 0, none⟩ = some (.string s0) := HR0.out.get 0 (by show 0 < 6; decide)
              have hd0 : w.cell? ⟨g, 1, none⟩ = some (.string t0) := HR0.out.get 1 (by show 1 < 6; decide)
              go_wp2_with fail
              refine (HL0.out _).mono ?_
              rintro e w1 ⟨rfl, b1⟩
              have HB1 := Lib.hid (HB0.out.trans (b1.mono HB0.out.size))
              have HR1 := Lib.hid (HR0.out.below b1)
              clear b1 hc0 hd0
              have hc1 : w1.cell? ⟨g, 0, none⟩ = some (.string s0) := HR1.out.get 0 (by show 0 < 6; decide)
              have hd1 : w1.cell? ⟨g, 1, none⟩ = some (.string t0) := HR1.out.get 1 (by show 1 < 6; decide)
              go_wp2_with fail
              refine (HQ0.out _ (HS.out.below HB1.out).std).mono ?_
              rintro e w2 ⟨rfl, b2⟩
              have HB2 := Lib.hid (HB1.out.trans (b2.mono HB1.out.size))
              have HR2 := Lib.hid (HR1.out.below b2)
              clear b2 hc1 hd1
              go_wp2_with fail
              rw [rounds_succ]
              have hc2 : w2.cell? ⟨g, 2, none⟩ = some (.string s1) := HR2.out.get 2 (by show 2 < 6; decide)
              have hd2 : w2.cell? ⟨g, 3, none⟩ = some (.string t1) := HR2.out.get 3 (by show 3 < 6; decide)
              go_wp2_with fail
              refine (HL1.out _).mono ?_
              rintro e w3 ⟨rfl, b3⟩
              have HB3 := Lib.hid (HB2.out.trans (b3.mono HB2.out.size))
              have HR3 := Lib.hid (HR2.out.below b3)
              clear b3 hc2 hd2
              have hc3 : w3.cell? ⟨g, 2, none⟩ = some (.string s1) := HR3.out.get 2 (by show 2 < 6; decide)
              have hd3 : w3.cell? ⟨g, 3, none⟩ = some (.string t1) := HR3.out.get 3 (by show 3 < 6; decide)
              go_wp2_with fail
              refine (HQ1.out _ (HS.out.below HB3.out).std).mono ?_
              rintro e w4 ⟨rfl, b4⟩
              have HB4 := Lib.hid (HB3.out.trans (b4.mono HB3.out.size))
              have HR4 := Lib.hid (HR3.out.below b4)
              clear b4 hc3 hd3
              go_wp2_with fail
              rw [rounds_succ]
              have hc4 : w4.cell? ⟨g, 4, none⟩ = some (.string s2) := HR4.out.get 4 (by show 4 < 6; decide)
              have hd4 : w4.cell? ⟨g, 5, none⟩ = some (.string t2) := HR4.out.get 5 (by show 5 < 6; decide)
              go_wp2_with fail
              refine (HL2.out _).mono ?_
              rintro e w5 ⟨rfl, b5⟩
              have HB5 := Lib.hid (HB4.out.trans (b5.mono HB4.out.size))
              have HR5 := Lib.hid (HR4.out.below b5)
              clear b5 hc4 hd4
              have hc5 : w5.cell? ⟨g, 4, none⟩ = some (.string s2) := HR5.out.get 4 (by show 4 < 6; decide)
              have hd5 : w5.cell? ⟨g, 5, none⟩ = some (.string t2) := HR5.out.get 5 (by show 5 < 6; decide)
              go_wp2_with fail
              refine (HQ2.out _ (HS.out.below HB5.out).std).mono ?_
              rintro e w6 ⟨rfl, b6⟩
              have HB6 := Lib.hid (HB5.out.trans (b6.mono HB5.out.size))
              have HR6 := Lib.hid (HR5.out.below b6)
              clear b6 hc5 hd5
              go_wp2_with fail
              go_ret
              exact ⟨by rw [hV.out]; rfl, HB6.out⟩
            | true =>
              rw [r2] at HQ2
              have hV := Lib.hid (show (okF s0 t0 && okF s1 t1 && okF s2 t2) = true by unfold okF; rw [l0, r0, l1, r1, l2, r2]; rfl)
              obtain ⟨V, hVV⟩ : ∃ V, V = (okF s0 t0 && okF s1 t1 && okF s2 t2) := ⟨_, rfl⟩
              rw [← hVV] at hV ⊢
              clear hVV l0 r0 l1 r1 l2 r2
              go_enter Tryz.func26, Tryz.ntmps26
              go_wp2_with fail
              refine wp_loop_rounds 4 ?_
              rw [rounds_succ]
              have hc0 : w.cell? ⟨g, 0, none⟩ = some (.string s0) := HR0.out.get 0 (by show 0 < 6; decide)
              have hd0 : w.cell? ⟨g, 1, none⟩ = some (.string t0) := HR0.out.get 1 (by show 1 < 6; decide)
              go_wp2_with fail
              refine (HL0.out _).mono ?_
              rintro e w1 ⟨rfl, b1⟩
              have HB1 := Lib.hid (HB0.out.trans (b1.mono HB0.out.size))
              have HR1 := Lib.hid (HR0.out.below b1)
              clear b1 hc0 hd0
              have hc1 : w1.cell? ⟨g, 0, none⟩ = some (.string s0) := HR1.out.get 0 (by show 0 < 6; decide)
              have hd1 : w1.cell? ⟨g, 1, none⟩ = some (.string t0) := HR1.out.get 1 (by show 1 < 6; decide)
              go_wp2_with fail
              refine (HQ0.out _ (HS.out.below HB1.out).std).mono ?_
              rintro e w2 ⟨rfl, b2⟩
              have HB2 := Lib.hid (HB1.out.trans (b2.mono HB1.out.size))
              have HR2 := Lib.hid (HR1.out.below b2)
              clear b2 hc1 hd1
              go_wp2_with fail
              rw [rounds_succ]
              have hc2 : w2.cell? ⟨g, 2, none⟩ = some (.string s1) := HR2.out.get 2 (by show 2 < 6; decide)
              have hd2 : w2.cell? ⟨g, 3, none⟩ = some (.string t1) := HR2.out.get 3 (by show 3 < 6; decide)
              go_wp2_with fail
              refine (HL1.out _).mono ?_
              rintro e w3 ⟨rfl, b3⟩
              have HB3 := Lib.hid (HB2.out.trans (b3.mono HB2.out.size))
              have HR3 := Lib.hid (HR2.out.below b3)
              clear b3 hc2 hd2
              have hc3 : w3.cell? ⟨g, 2, none⟩ = some (.string s1) := HR3.out.get 2 (by show 2 < 6; decide)
              have hd3 : w3.cell? ⟨g, 3, none⟩ = some (.string t1) := HR3.out.get 3 (by show 3 < 6; decide)
              go_wp2_with fail
              refine (HQ1.out _ (HS.out.below HB3.out).std).mono ?_
              rintro e w4 ⟨rfl, b4⟩
              have HB4 := Lib.hid (HB3.out.trans (b4.mono HB3.out.size))
              have HR4 := Lib.hid (HR3.out.below b4)
              clear b4 hc3 hd3
              go_wp2_with fail
              rw [rounds_succ]
              have hc4 : w4.cell? ⟨g, 4, none⟩ = some (.string s2) := HR4.out.get 4 (by show 4 < 6; decide)
              have hd4 : w4.cell? ⟨g, 5, none⟩ = some (.string t2) := HR4.out.get 5 (by show 5 < 6; decide)
              go_wp2_with fail
              refine (HL2.out _).mono ?_
              rintro e w5 ⟨rfl, b5⟩
              have HB5 := Lib.hid (HB4.out.trans (b5.mono HB4.out.size))
              have HR5 := Lib.hid (HR4.out.below b5)
              clear b5 hc4 hd4
              have hc5 : w5.cell? ⟨g, 4, none⟩ = some (.string s2) := HR5.out.get 4 (by show 4 < 6; decide)
              have hd5 : w5.cell? ⟨g, 5, none⟩ = some (.string t2) := HR5.out.get 5 (by show 5 < 6; decide)
              go_wp2_with fail
              refine (HQ2.out _ (HS.out.below HB5.out).std).mono ?_
              rintro e w6 ⟨rfl, b6⟩
              have HB6 := Lib.hid (HB5.out.trans (b6.mono HB5.out.size))
              have HR6 := Lib.hid (HR5.out.below b6)
              clear b6 hc5 hd5
              go_wp2_with fail
              rw [rounds_succ]
              go_wp2_with fail
              go_ret
              exact ⟨by rw [hV.out]; rfl, HB6.out⟩
end Go.Proofs.YtdgbplppabalgaaGreatDoor
