/-
  Texts of one seat, joined: YRound YPops.
-/
import Derived.Test.YtdgbplppabalgaaGreatDoorL29
import Derived.Test.YtdgbplppabalgaaGreatDoorJ20
import Derived.Test.YtdgbplppabalgaaGreatDoorJ15
import Derived.Test.YtdgbplppabalgaaGreatDoorJ25
import Derived.Test.YtdgbplppabalgaaGreatDoorJ12
import Derived.Test.YtdgbplppabalgaaGreatDoorL30
import Derived.Test.YtdgbplppabalgaaGreatDoorL28
namespace Go.Proofs.YtdgbplppabalgaaGreatDoor
open Go.RowKit

/-- the box of a fraction, the result's cell, and another box -/
structure Bq1 (w W : World) (s t : ByteArray) (gx : Nat) (p q : ByteArray) : Prop where
  big : Bn w W s t
  inv : BxT W (w.heap.size + 2) gx 24 (.string p) (.string q)
theorem Bq1.to {w W W' : World} {s t p q : ByteArray} {gx : Nat} (h : Bq1 w W s t gx p q) (hb : Below W.heap.size W W') : Bq1 w W' s t gx p q := ⟨h.big.to hb, h.inv.kept hb⟩
theorem Bq1.put {w W : World} {s t p q : ByteArray} {gx : Nat} (h : Bq1 w W s t gx p q) (u v : ByteArray) : Bq1 w ((W.setCell ⟨gx, 0, none⟩ (.string u)).setCell ⟨gx, 1, none⟩ (.string v)) s t gx u v := by
  have hg := h.inv.lt.1
  have n0 : gx ≠ w.heap.size := by omega
  have n2 : w.heap.size + 1 ≠ gx := by omega
  exact ⟨⟨(h.big.below.setCell (p := ⟨gx, 0, none⟩) (show w.heap.size ≤ gx by omega) _).setCell (p := ⟨gx, 1, none⟩) (show w.heap.size ≤ gx by omega) _, (h.big.box.farS n0 _).farS n0 _, (h.big.res.other (p := ⟨gx, 0, none⟩) n2 _).other (p := ⟨gx, 1, none⟩) n2 _⟩, (h.inv.set0 (.string u)).set1 (.string v)⟩
theorem Bn.more {w W : World} {s t : ByteArray} (h : Bn w W s t) (p q : ByteArray) : Bq1 w (W.alloc (.cells #[.string p, .string q] 24)) s t W.heap.size p q :=
  ⟨h.to ((Below.refl _ _).alloc (Nat.le_refl _) _), BxT.new W (w.heap.size + 2) h.res.lt.2 24 (.string p) (.string q)⟩
theorem grid_mul {n g : Int} (hn : n.natAbs < 10000000000000000000000000000000000000000000000000000000000000) (h1 : 1 ≤ g) (h2 : g ≤ 1000000) : (n * g).natAbs < 10000000000000000000000000000000000000000000000000000000000000000000 := by
  rw [Int.natAbs_mul]
  have h3 : g.natAbs ≤ 1000000 := by omega
  exact Nat.lt_of_le_of_lt (Nat.mul_le_mul_left _ h3) (by omega)
set_option maxHeartbeats 1600000 in
theorem roundF_no (s t : ByteArray) (g : Int) (w : World) (hg : g < 1 ∨ 1000000 < g) :
    Calls Tryz.prog 59 #[ratV s t, .int .i64 g] w fun e w' => e = .returned (.tuple #[ratV ⟨#[]⟩ ⟨#[]⟩, .int .i64 3]) ∧ Below w.heap.size w w' := by
  have HZ := Lib.hid (Bn.new w s t)
  have hq : (decide (g < 1) || decide (g > 1000000)) = true := by
    rcases hg with h | h
    · rw [decide_eq_true h]; rfl
    · rw [show decide (g > 1000000) = true from decide_eq_true h]; exact Bool.or_true _
  cases h1 : decide (g < 1) with
  | true =>
    clear hq hg
    go_enter Tryz.func59, Tryz.ntmps59
    go_upto_region 1 with fail
    obtain ⟨W0, hW0⟩ : ∃ W0, W0 = (w.alloc (ratO s t)).alloc (.cells #[.string ⟨#[]⟩, .string ⟨#[]⟩] 24) := ⟨_, rfl⟩
    rw [← hW0] at HZ ⊢
    clear hW0
    obtain ⟨f0, e0, e1, f1, g1, x0, x1⟩ := HZ.out.res.stores (.string ⟨#[]⟩) (.string ⟨#[]⟩)
    have HBE := Lib.hid ((HZ.out.below.setCell (p := ⟨w.heap.size + 1, 0, none⟩) (Nat.le_succ _) (.string ⟨#[]⟩)).setCell (p := ⟨w.heap.size + 1, 1, none⟩) (Nat.le_succ _) (.string ⟨#[]⟩))
    go_wp2_with fail
    (try simp only [Exit.inBlock, Exit.then])
    refine bodyPost_ret (v := .tuple #[ratV ⟨#[]⟩ ⟨#[]⟩, .int .i64 3]) ?_ rfl ⟨rfl, HBE.out⟩
    rw [results_cell_tmp rfl]
    go_simp
  | false =>
    rw [h1, Bool.false_or] at hq
    clear hg
    go_enter Tryz.func59, Tryz.ntmps59
    go_upto_region 1 with fail
    obtain ⟨W0, hW0⟩ : ∃ W0, W0 = (w.alloc (ratO s t)).alloc (.cells #[.string ⟨#[]⟩, .string ⟨#[]⟩] 24) := ⟨_, rfl⟩
    rw [← hW0] at HZ ⊢
    clear hW0
    obtain ⟨f0, e0, e1, f1, g1, x0, x1⟩ := HZ.out.res.stores (.string ⟨#[]⟩) (.string ⟨#[]⟩)
    have HBE := Lib.hid ((HZ.out.below.setCell (p := ⟨w.heap.size + 1, 0, none⟩) (Nat.le_succ _) (.string ⟨#[]⟩)).setCell (p := ⟨w.heap.size + 1, 1, none⟩) (Nat.le_succ _) (.string ⟨#[]⟩))
    go_wp2_with fail
    (try simp only [Exit.inBlock, Exit.then])
    refine bodyPost_ret (v := .tuple #[ratV ⟨#[]⟩ ⟨#[]⟩, .int .i64 3]) ?_ rfl ⟨rfl, HBE.out⟩
    rw [results_cell_tmp rfl]
    go_simp
set_option maxHeartbeats 3200000 in
set_option maxRecDepth 100000 in
theorem roundF_yes (n d g : Int) (w : World) (hs : Std w) (hn : n.natAbs < 10000000000000000000000000000000000000000000000000000000000000) (hd : d.natAbs < 10000000000000000000000000000000000000000000000000000000000000) (hp : 0 < d) (h1 : 1 ≤ g) (h2 : g ≤ 1000000) (hk : (str ((n * g + n * g + d).fdiv (d + d)).natAbs).size ≤ 400000) :
    Calls Tryz.prog 59 #[ratV (zS n) (zS d), .int .i64 g] w fun e w' => e = .returned (.tuple #[ratV (newS ((n * g + n * g + d).fdiv (d + d)) g) (newT ((n * g + n * g + d).fdiv (d + d)) g), .int .i64 0]) ∧ Below w.heap.size w w' := by
  have z1 : (str n.natAbs).size ≤ 80 := big80 (by omega)
  have z2 : (str g.natAbs).size ≤ 80 := big80 (by omega)
  have hm1 := grid_mul hn h1 h2
  have HO := Lib.hid (fun wx hw => ofW_any g wx hw (by omega) (by omega))
  have HMU := Lib.hid (fun wx (hw : Std wx) => mulW_any n g wx hw (by omega) (by omega))
  have HNE := Lib.hid (fun wx (hw : Std wx) => nearF_any (n * g) d wx hw (by omega) (by omega) hp)
  have HNW := Lib.hid (fun wx (hw : Std wx) => newF_any ((n * g + n * g + d).fdiv (d + d)) g wx hw hk (by omega))
  rw [show newE g = 0 from if_neg (by omega)] at HNW
  have hd1 : decide (g < 1) = false := decide_eq_false (by omega)
  have hd2 : decide (g > 1000000) = false := decide_eq_false (by omega)
  obtain ⟨s, hs1⟩ : ∃ s, s = zS n := ⟨_, rfl⟩
  obtain ⟨t, ht1⟩ : ∃ s, s = zS d := ⟨_, rfl⟩
  obtain ⟨r, hr1⟩ : ∃ s, s = zS g := ⟨_, rfl⟩
  obtain ⟨m, hm2⟩ : ∃ s, s = zS (n * g) := ⟨_, rfl⟩
  obtain ⟨k, hk2⟩ : ∃ k, k = (n * g + n * g + d).fdiv (d + d) := ⟨_, rfl⟩
  rw [← hk2] at HNE HNW ⊢
  obtain ⟨kk, hkk⟩ : ∃ s, s = zS k := ⟨_, rfl⟩
  obtain ⟨rs, hrs⟩ : ∃ s, s = newS k g := ⟨_, rfl⟩
  obtain ⟨rt, hrt⟩ : ∃ s, s = newT k g := ⟨_, rfl⟩
  rw [← hr1] at HO
  rw [← hs1, ← hr1, ← hm2] at HMU
  rw [← hm2, ← ht1, ← hkk] at HNE
  rw [← hkk, ← hr1, ← hrs, ← hrt] at HNW
  rw [← hs1, ← ht1, ← hrs, ← hrt]
  have HZ := Lib.hid (Bn.new w s t)
  have HS := Lib.hid hs
  clear hs hn hd hp h1 h2 hk z1 z2 hm1 hs1 ht1 hr1 hm2 hk2 hkk hrs hrt
  go_enter Tryz.func59, Tryz.ntmps59
  go_upto_region 1 with fail
  obtain ⟨W0, hW0⟩ : ∃ W0, W0 = (w.alloc (ratO s t)).alloc (.cells #[.string ⟨#[]⟩, .string ⟨#[]⟩] 24) := ⟨_, rfl⟩
  rw [← hW0] at HZ ⊢
  clear hW0
  go_wp2_with fail
  refine (HO.out _ (HS.out.below HZ.out.below)).mono ?_
  rintro e w1 ⟨rfl, h1⟩
  have Z1 := Lib.hid (HZ.out.to h1)
  clear h1
  go_upto_region 4 with fail
  go_cut [7] from 17 to 23 (fun a wx => ∃ gx : Nat, a = .pointer (some ⟨gx, 0, none⟩) ∧ Bq1 w wx s t gx m t)
  case first =>
    have HC := Lib.hid (show ∀ wx, Bn w wx s t → wx.cell? ⟨w.heap.size, 0, none⟩ = some (.string s) ∧ wx.cell? ⟨w.heap.size, 1, none⟩ = some (.string t) from fun wx hx => ⟨hx.box.num, hx.box.den⟩)
    have Y0 := Lib.hid (Z1.out.to (Below.drew (Below.refl _ _)))
    go_region_held3 (fun W => W.cell? ⟨w.heap.size, 0, none⟩ = some (.string s) ∧ W.cell? ⟨w.heap.size, 1, none⟩ = some (.string t)) (first | exact HC.out _ BST.out.big | exact HC.out _ Y1.out | exact HC.out _ (Y1.out.more _ _).big | exact HC.out _ Y0.out | exact HC.out _ (Y0.out.more _ _).big) (first | (go_at_call 97; first | (refine (HMU.out _ (HS.out.below Y0.out.below)).mono ?_; rintro e v1 ⟨rfl, h⟩; have Y1 := Lib.hid (Y0.out.to h); have PB := Lib.hid (Y1.out.more ⟨#[]⟩ ⟨#[]⟩); obtain ⟨f0, e0, e1, f1, g1, x0, x1⟩ := PB.out.inv.stores (.string m) (.string t); have BSA := Lib.hid (Y1.out.more m t); have cc0 := BSA.out.inv.c0; have cc1 := BSA.out.inv.c1; have BST := Lib.hid (PB.out.put m t); clear h) | (have PB := Lib.hid (show Bq1 w (w1.drew.alloc (.cells #[.string ⟨#[]⟩, .string ⟨#[]⟩] 24)) s t w1.heap.size ⟨#[]⟩ ⟨#[]⟩ from Y0.out.more ⟨#[]⟩ ⟨#[]⟩); refine (HMU.out _ (HS.out.below PB.out.big.below)).mono ?_; rintro e v1 ⟨rfl, h⟩; have P1 := Lib.hid (PB.out.to h); obtain ⟨f0, e0, e1, f1, g1, x0, x1⟩ := P1.out.inv.stores (.string m) (.string t); have BST := Lib.hid (P1.out.put m t); have Y1 := Lib.hid P1.out.big; clear h PB)))
    all_goals (
      go_wp2_with fail
      go_meet
      first | exact ⟨_, rfl, BSA.out⟩ | exact ⟨_, rfl, BST.out⟩)
  case rest =>
    obtain ⟨gx, rfl, hbd⟩ := hcut
    have D2 := Lib.hid hbd
    clear hbd Z1
    have y1 := D2.out.inv.c0
    have y2 := D2.out.inv.c1
    go_wp2_with fail
    refine (HNE.out _ (HS.out.below D2.out.big.below)).mono ?_
    rintro e w3 ⟨rfl, h3⟩
    have D3 := Lib.hid (D2.out.to h3)
    clear h3 y1 y2
    go_wp2_with fail
    refine (HNW.out _ (HS.out.below D3.out.big.below)).mono ?_
    rintro e w4 ⟨rfl, h4⟩
    have Z5 := D3.out.big.to h4
    obtain ⟨f0, e0, e1, f1, g1, x0, x1⟩ := Z5.res.stores (.string rs) (.string rt)
    have HBE := Lib.hid ((Z5.below.setCell (p := ⟨w.heap.size + 1, 0, none⟩) (Nat.le_succ _) (.string rs)).setCell (p := ⟨w.heap.size + 1, 1, none⟩) (Nat.le_succ _) (.string rt))
    clear h4 Z5
    go_wp2_with fail
    (try simp only [Exit.inBlock, Exit.then])
    refine bodyPost_ret (v := .tuple #[ratV rs rt, .int .i64 0]) ?_ rfl ⟨rfl, HBE.out⟩
    rw [results_cell_tmp rfl]
    go_simp
end Go.Proofs.YtdgbplppabalgaaGreatDoor

namespace Go.Proofs.YtdgbplppabalgaaGreatDoor
open Go.RowKit

theorem sd (d : Nat) : zS (d : Int) = str d := by rw [zS_pos (by omega), Int.natAbs_natCast]
abbrev ratP (p : Int × Nat) : Value := ratV (zS p.1) (str p.2)
/-- a right fraction whose numbers have at most so many digits -/
structure Sz (k : Nat) (p : Int × Nat) : Prop where
  fr : FrP p
  num : (str p.1.natAbs).size ≤ k
  den : (str p.2).size ≤ k
theorem Sz.pos {k : Nat} {p : Int × Nat} (h : Sz k p) : 0 < p.2 := h.fr.pos
theorem Sz.mono {k k' : Nat} {p : Int × Nat} (h : Sz k p) (hk : k ≤ k') : Sz k' p := ⟨h.fr, by have := h.num; omega, by have := h.den; omega⟩
theorem lowN_nat (n : Int) (d : Nat) : (lowN n d).natAbs ≤ n.natAbs := by
  by_cases g : Nat.gcd n.natAbs d = 0
  · unfold lowN; rw [g]; simp
  · have h := congrArg Int.natAbs (low_parts n d).1
    rw [Int.natAbs_mul, Int.natAbs_natCast] at h
    exact Nat.le_trans (Nat.le_mul_of_pos_left _ (Nat.pos_of_ne_zero g)) (Nat.le_of_eq h.symm)
theorem Sz.lo {k d : Nat} {n : Int} (hd : 0 < d) (h1 : (str n.natAbs).size ≤ k) (h2 : (str d).size ≤ k) : Sz k (lo n d) :=
  ⟨lo_right n hd, zsz_le h1 (lowN_nat n d), zsz_le h2 (Nat.div_le_self _ _)⟩
theorem Sz.mulD {k : Nat} {p q : Int × Nat} (hp : Sz k p) (hq : Sz k q) (hk : 0 < k) : (str (p.2 * q.2)).size ≤ k + k := by
  have h := zsz_mul2 (a := (p.2 : Int)) (b := (q.2 : Int)) (k := k) (by rw [Int.natAbs_natCast]; exact hp.den) (by rw [Int.natAbs_natCast]; exact hq.den) hk
  rw [Int.natAbs_mul, Int.natAbs_natCast, Int.natAbs_natCast] at h; exact h
theorem Sz.add {k : Nat} {p q : Int × Nat} (hp : Sz k p) (hq : Sz k q) (hk : 0 < k) : Sz (k + k + 1) (addP p q) :=
  Sz.lo (Nat.mul_pos hp.pos hq.pos) (zsz_add2 (zsz_mul2 hp.num (by rw [Int.natAbs_natCast]; exact hq.den) hk) (zsz_mul2 hq.num (by rw [Int.natAbs_natCast]; exact hp.den) hk) (by omega)) (by have := hp.mulD hq hk; omega)
theorem Sz.mul {k : Nat} {p q : Int × Nat} (hp : Sz k p) (hq : Sz k q) (hk : 0 < k) : Sz (k + k) (mulP p q) :=
  Sz.lo (Nat.mul_pos hp.pos hq.pos) (zsz_mul2 hp.num hq.num hk) (hp.mulD hq hk)
theorem Sz.neg {k : Nat} {p : Int × Nat} (hp : Sz k p) : Sz k (negP p) := ⟨negP_right hp.fr, by show (str (-p.1).natAbs).size ≤ k; rw [Int.natAbs_neg]; exact hp.num, hp.den⟩
theorem Sz.inv {k : Nat} {p : Int × Nat} (hp : Sz k p) (h : p.1 ≠ 0) : Sz k (invP p) :=
  ⟨invP_right hp.fr h, by
    show (str (sgnI p.1 * (p.2 : Int)).natAbs).size ≤ k
    rw [Int.natAbs_mul, (sgnI_abs h).1, Int.natAbs_natCast, Nat.one_mul]; exact hp.den, hp.num⟩
theorem natMul (a b : Nat) : ((a : Int) * (b : Int)).natAbs = a * b := by rw [Int.natAbs_mul, Int.natAbs_natCast, Int.natAbs_natCast]
theorem addP_any {k : Nat} {p q : Int × Nat} (hp : Sz k p) (hq : Sz k q) (hk : k ≤ 10000) (w : World) (hs : Std w) :
    Calls Tryz.prog 33 #[ratP p, ratP q] w fun e w' => e = .returned (ratP (addP p q)) ∧ Below w.heap.size w w' := by
  have h := addF_any p.1 p.2 q.1 q.2 w hs (Nat.le_trans hp.num hk) (by rw [Int.natAbs_natCast]; exact Nat.le_trans hp.den hk) (Nat.le_trans hq.num hk) (by rw [Int.natAbs_natCast]; exact Nat.le_trans hq.den hk) (by have := hp.pos; omega) (by have := hq.pos; omega)
  rw [sd, sd, natMul] at h
  exact h
theorem mulP_any {k : Nat} {p q : Int × Nat} (hp : Sz k p) (hq : Sz k q) (hk : k ≤ 10000) (w : World) (hs : Std w) :
    Calls Tryz.prog 42 #[ratP p, ratP q] w fun e w' => e = .returned (ratP (mulP p q)) ∧ Below w.heap.size w w' := by
  have h := mulF_any p.1 p.2 q.1 q.2 w hs (Nat.le_trans hp.num hk) (by rw [Int.natAbs_natCast]; exact Nat.le_trans hp.den hk) (Nat.le_trans hq.num hk) (by rw [Int.natAbs_natCast]; exact Nat.le_trans hq.den hk) (by have := hp.pos; omega) (by have := hq.pos; omega)
  rw [sd, sd, natMul] at h
  exact h
theorem subP_any {k : Nat} {p q : Int × Nat} (hp : Sz k p) (hq : Sz k q) (hk : k ≤ 10000) (w : World) (hs : Std w) :
    Calls Tryz.prog 34 #[ratP p, ratP q] w fun e w' => e = .returned (ratP (addP p (negP q))) ∧ Below w.heap.size w w' := by
  have h := subF_any p.1 p.2 q.1 q.2 w hs (Nat.le_trans hp.num hk) (by rw [Int.natAbs_natCast]; exact Nat.le_trans hp.den hk) (Nat.le_trans hq.num hk) (by rw [Int.natAbs_natCast]; exact Nat.le_trans hq.den hk) (by have := hp.pos; omega) (by have := hq.pos; omega)
  rw [sd, sd, natMul] at h
  exact h
theorem cmpP_any {k : Nat} {p q : Int × Nat} (hp : Sz k p) (hq : Sz k q) (hk : k ≤ 10000) (w : World) (hs : Std w) :
    Calls Tryz.prog 47 #[ratP p, ratP q] w fun e w' => e = .returned (.int .i64 (cmpP p q)) ∧ Below w.heap.size w w' := by
  have h := cmpF_any p.1 p.2 q.1 q.2 w hs (Nat.le_trans hp.num hk) (by rw [Int.natAbs_natCast]; exact Nat.le_trans hp.den hk) (Nat.le_trans hq.num hk) (by rw [Int.natAbs_natCast]; exact Nat.le_trans hq.den hk) (by have := hp.pos; omega) (by have := hq.pos; omega)
  rw [sd, sd] at h
  exact h
theorem signP_any {k : Nat} {p : Int × Nat} (hp : Sz k p) (hk : k ≤ 10000) (w : World) :
    Calls Tryz.prog 48 #[ratP p] w fun e w' => e = .returned (.int .i64 (sgnI p.1)) ∧ Below w.heap.size w w' := signF_any p.1 (str p.2) w (by have := hp.num; omega)
theorem absP_any {k : Nat} {p : Int × Nat} (hp : Sz k p) (hk : k ≤ 10000) (w : World) :
    Calls Tryz.prog 38 #[ratP p] w fun e w' => e = .returned (ratP (absP p)) ∧ Below w.heap.size w w' := by
  have h := absF_any p.1 (str p.2) w (by have := hp.num; omega)
  rw [← sd p.1.natAbs] at h
  exact h
theorem Sz.abs {k : Nat} {p : Int × Nat} (hp : Sz k p) : Sz k (absP p) := ⟨⟨hp.fr.pos, by show Nat.gcd ((p.1.natAbs : Nat) : Int).natAbs p.2 = 1; rw [Int.natAbs_natCast]; exact hp.fr.one⟩, by show (str ((p.1.natAbs : Nat) : Int).natAbs).size ≤ k; rw [Int.natAbs_natCast]; exact hp.num, hp.den⟩
theorem divP_any {k : Nat} {p q : Int × Nat} (hp : Sz k p) (hq : Sz k q) (hk : k ≤ 10000) (h0 : q.1 ≠ 0) (w : World) (hs : Std w) :
    Calls Tryz.prog 41 #[ratP p, ratP q] w fun e w' => e = .returned (.tuple #[ratP (mulP p (invP q)), .int .i64 0]) ∧ Below w.heap.size w w' := by
  have h := divF_any p.1 p.2 q.1 q.2 w hs (Nat.le_trans hp.num hk) (by rw [Int.natAbs_natCast]; exact Nat.le_trans hp.den hk) (Nat.le_trans hq.num hk) (by rw [Int.natAbs_natCast]; exact Nat.le_trans hq.den hk) (by have := hp.pos; omega) h0
  have hpos : (0 : Int) < p.2 := by have := hp.pos; omega
  have e : newN (p.1 * (q.2 : Int)) ((p.2 : Int) * q.1) = (mulP p (invP q)).1 ∧ newD (p.1 * (q.2 : Int)) ((p.2 : Int) * q.1) = (mulP p (invP q)).2 := by
    have e2 : ((p.2 : Int) * q.1).natAbs = p.2 * q.1.natAbs := by rw [Int.natAbs_mul, Int.natAbs_natCast]
    unfold newN newD
    rw [e2]
    rcases (by omega : q.1 < 0 ∨ 0 < q.1) with hq0 | hq0
    · rw [if_pos (Int.mul_neg_of_pos_of_neg hpos hq0), if_pos (Int.mul_neg_of_pos_of_neg hpos hq0)]
      have e3 : p.1 * (sgnI q.1 * (q.2 : Int)) = -(p.1 * (q.2 : Int)) := by rw [sgnI_neg' hq0]; grind
      exact ⟨by show _ = lowN (p.1 * (sgnI q.1 * (q.2 : Int))) (p.2 * q.1.natAbs); rw [e3], by show _ = lowD (p.1 * (sgnI q.1 * (q.2 : Int))) (p.2 * q.1.natAbs); rw [e3]⟩
    · have hn : ¬ (p.2 : Int) * q.1 < 0 := by have := Int.mul_pos hpos hq0; omega
      rw [if_neg hn, if_neg hn]
      have e3 : p.1 * (sgnI q.1 * (q.2 : Int)) = p.1 * (q.2 : Int) := by rw [sgnI_pos hq0, Int.one_mul]
      exact ⟨by show _ = lowN (p.1 * (sgnI q.1 * (q.2 : Int))) (p.2 * q.1.natAbs); rw [e3], by show _ = lowD (p.1 * (sgnI q.1 * (q.2 : Int))) (p.2 * q.1.natAbs); rw [e3]⟩
  rw [sd, sd, e.1, e.2] at h
  exact h
theorem fdivB (x : Int) {y : Int} (hy : 0 < y) : (x.fdiv y).natAbs ≤ x.natAbs + 1 := by
  have h1 := Int.mul_fdiv_add_fmod x y
  have h2 := fmod_pos x hy
  generalize x.fdiv y = q at *
  generalize x.fmod y = r at *
  rcases (by omega : q < 0 ∨ q = 0 ∨ 0 < q) with h | h | h
  · have h3 : y * q ≤ 1 * q := Int.mul_le_mul_of_nonpos_right (by omega) (by omega)
    have h4 : y * (q + 1) ≤ 1 * (q + 1) ∨ q + 1 = 0 := by
      by_cases hz : q + 1 = 0
      · exact .inr hz
      · exact .inl (Int.mul_le_mul_of_nonpos_right (by omega) (by omega))
    have h5 : y * (q + 1) = y * q + y := by grind
    omega
  · omega
  · have h3 : 1 * q ≤ y * q := Int.mul_le_mul_of_nonneg_right (by omega) (by omega)
    omega
theorem floorP_any {k : Nat} {p : Int × Nat} (hp : Sz k p) (hk : k ≤ 10000) (w : World) (hs : Std w) :
    Calls Tryz.prog 54 #[ratP p] w fun e w' => e = .returned (.string (zS (floorP p))) ∧ Below w.heap.size w w' := by
  have h := floorF_any p.1 p.2 w hs (by have := hp.num; omega) (by rw [Int.natAbs_natCast]; have := hp.den; omega) (by have := hp.pos; omega)
  rw [sd] at h
  exact h
theorem restP_any {k : Nat} {p : Int × Nat} (hp : Sz k p) (hk : k ≤ 10000) (w : World) (hs : Std w) :
    Calls Tryz.prog 58 #[ratP p] w fun e w' => e = .returned (ratP (restP p)) ∧ Below w.heap.size w w' := by
  have h := restF_any p.1 p.2 w hs (by have := hp.num; omega) (by rw [Int.natAbs_natCast]; have := hp.den; omega) (by have := hp.pos; omega)
  rw [sd] at h
  exact h
theorem round_new (n : Int) (d g : Nat) (hg : 0 < g) : newS ((n * g + n * g + d).fdiv ((d : Int) + d)) g = zS (roundP (n, d) g).1 ∧ newT ((n * g + n * g + d).fdiv ((d : Int) + d)) g = str (roundP (n, d) g).2 := by
  have e : (n * (g : Int) + n * g + d).fdiv ((d : Int) + d) = nearP (n * (g : Int), d) := by
    show _ = (2 * (n * (g : Int)) + (d : Int)).fdiv (2 * (d : Int))
    rw [show n * (g : Int) + n * g + d = 2 * (n * (g : Int)) + (d : Int) by omega, show (d : Int) + d = 2 * (d : Int) by omega]
  rw [e]
  show newS (nearP (n * (g : Int), d)) g = zS (lowN (nearP (n * (g : Int), d)) g) ∧ newT (nearP (n * (g : Int), d)) g = str (lowD (nearP (n * (g : Int), d)) g)
  generalize nearP (n * (g : Int), d) = m
  unfold newS newT newN newD
  rw [if_neg (by omega), if_neg (by omega), if_neg (by omega), if_neg (by omega), Int.natAbs_natCast]
  exact ⟨rfl, rfl⟩
theorem roundP_any {p : Int × Nat} {g : Nat} (hf : 0 < p.2) (hn : p.1.natAbs < 1000000000000) (hd : p.2 < 1000000000000) (h1 : 1 ≤ g) (h2 : g ≤ 1000) (w : World) (hs : Std w) :
    Calls Tryz.prog 59 #[ratP p, .int .i64 g] w fun e w' => e = .returned (.tuple #[ratP (roundP p g), .int .i64 0]) ∧ Below w.heap.size w w' := by
  have hm : (p.1 * (g : Int)).natAbs ≤ 1000000000000 * 1000 := by
    rw [Int.natAbs_mul, Int.natAbs_natCast]; exact Nat.mul_le_mul (Nat.le_of_lt hn) h2
  have hq := fdivB (p.1 * (g : Int) + p.1 * (g : Int) + (p.2 : Int)) (y := (p.2 : Int) + p.2) (by omega)
  have h := roundF_yes p.1 p.2 g w hs (by omega) (by omega) (by omega) (by omega) (by omega) (Nat.le_trans (big80 (by omega)) (by decide))
  rw [(round_new p.1 p.2 g (by omega)).1, (round_new p.1 p.2 g (by omega)).2, sd] at h
  exact h
end Go.Proofs.YtdgbplppabalgaaGreatDoor
