/-
  Texts of one seat, joined: YMulF YDivF YBoxes.
-/
import Derived.Test.YtdgbplppabalgaaGreatDoorJ18
import Derived.Test.YtdgbplppabalgaaGreatDoorL38
import Derived.Test.YtdgbplppabalgaaGreatDoorJ12
import Derived.Test.YtdgbplppabalgaaGreatDoorJ14
import Derived.Test.YtdgbplppabalgaaGreatDoorL28
import Derived.Test.YtdgbplppabalgaaGreatDoorJ25
import Derived.Test.YtdgbplppabalgaaGreatDoorJ20
import Derived.Deep.RegionHeld3
import Derived.BigRegion
import Derived.Deep.Cut
namespace Go.Proofs.YtdgbplppabalgaaGreatDoor
open Go.RowKit

set_option maxHeartbeats 6400000 in
set_option maxRecDepth 100000 in
theorem eiMul (n1 d1 n2 d2 : Int) (ga gb : Nat) (w : World) (hs : Std w) (hA : BxR w ga (zS n1) (zS d1)) (hB : BxR w gb (zS n2) (zS d2)) (h1 : (str n1.natAbs).size ≤ 10000) (h2 : (str d1.natAbs).size ≤ 10000) (h3 : (str n2.natAbs).size ≤ 10000) (h4 : (str d2.natAbs).size ≤ 10000) (p1 : 0 < d1) (p2 : 0 < d2) :
    Calls Tryz.prog 93 #[ratV (zS n1) (zS d1), ratV (zS n2) (zS d2), .func (.func 99) #[] #[], .func (.func 100) #[] #[.pointer (some ⟨ga, 0, none⟩), .pointer (some ⟨gb, 0, none⟩)]] w fun e w' => e = .returned (ratV (zS (lowN (n1 * n2) (d1 * d2).natAbs)) (str (lowD (n1 * n2) (d1 * d2).natAbs))) ∧ Below w.heap.size w w' := by
  have HF1 := Lib.hid (show ∃ (k : Bool) (v u : Int), (k = true → v = n1 ∧ u = d1 ∧ fewOk n1 d1) ∧ ∀ wx, Std wx → Calls Tryz.prog 67 #[ratV (zS n1) (zS d1)] wx fun e w' => e = .returned (.tuple #[rtV v u, .bool k]) ∧ Below wx.heap.size wx w' from by
    by_cases h : fewOk n1 d1
    · exact ⟨true, n1, d1, fun _ => ⟨rfl, rfl, h⟩, fun wx hw => fewF_yes n1 d1 wx hw h (by omega) (by omega)⟩
    · exact ⟨false, 0, 0, (fun q => by cases q), fun wx hw => fewF_no n1 d1 wx hw h (by omega) (by omega)⟩)
  have HF2 := Lib.hid (show ∃ (k : Bool) (v u : Int), (k = true → v = n2 ∧ u = d2 ∧ fewOk n2 d2) ∧ ∀ wx, Std wx → Calls Tryz.prog 67 #[ratV (zS n2) (zS d2)] wx fun e w' => e = .returned (.tuple #[rtV v u, .bool k]) ∧ Below wx.heap.size wx w' from by
    by_cases h : fewOk n2 d2
    · exact ⟨true, n2, d2, fun _ => ⟨rfl, rfl, h⟩, fun wx hw => fewF_yes n2 d2 wx hw h (by omega) (by omega)⟩
    · exact ⟨false, 0, 0, (fun q => by cases q), fun wx hw => fewF_no n2 d2 wx hw h (by omega) (by omega)⟩)
  have HL := Lib.hid (fun wx hw (hx : Below w.heap.size w wx) => mulClo_any n1 d1 n2 d2 ga gb wx hw (hA.below hx) (hB.below hx) h1 h2 h3 h4 p1 p2)
  have HQ := Lib.hid (fun wx (hw : Std wx) k1 k2 => mulFew_any n1 d1 n2 d2 wx hw k1 k2)
  obtain ⟨rs, hrs⟩ : ∃ s, s = zS (lowN (n1 * n2) (d1 * d2).natAbs) := ⟨_, rfl⟩
  obtain ⟨rt, hrt⟩ : ∃ s, s = str (lowD (n1 * n2) (d1 * d2).natAbs) := ⟨_, rfl⟩
  rw [← hrs, ← hrt] at HL HQ
  rw [← hrs, ← hrt]
  clear hrs hrt
  obtain ⟨k1, v1, u1, HK1, HFA⟩ := HF1.out
  obtain ⟨k2, v2, u2, HK2, HFB⟩ := HF2.out
  obtain ⟨s1, hs1⟩ : ∃ s, s = zS n1 := ⟨_, rfl⟩
  obtain ⟨t1, ht1⟩ : ∃ s, s = zS d1 := ⟨_, rfl⟩
  obtain ⟨s2, hs2⟩ : ∃ s, s = zS n2 := ⟨_, rfl⟩
  obtain ⟨t2, ht2⟩ : ∃ s, s = zS d2 := ⟨_, rfl⟩
  rw [← hs1, ← ht1] at HFA ⊢
  rw [← hs2, ← ht2] at HFB ⊢
  have HF1' := Lib.hid HFA
  have HF2' := Lib.hid HFB
  have HKA := Lib.hid HK1
  have HKB := Lib.hid HK2
  have HS := Lib.hid hs
  have HZ := Lib.hid (Bg.new w s1 t1 s2 t2)
  clear hs hA hB h1 h2 h3 h4 p1 p2 hs1 ht1 hs2 ht2 HFA HFB HK1 HK2 HF1 HF2
  go_enter Tryz.func93, Tryz.ntmps93
  go_upto_region 1 with fail
  obtain ⟨W0, hW0⟩ : ∃ W0, W0 = ((w.alloc (ratO s1 t1)).alloc (ratO s2 t2)).alloc (.cells #[.string ⟨#[]⟩, .string ⟨#[]⟩] 24) := ⟨_, rfl⟩
  rw [← hW0] at HZ ⊢
  clear hW0
  have c1 := HZ.out.two.one.num
  have c2 := HZ.out.two.one.den
  go_wp2_with fail
  refine (HF1'.out _ (HS.out.below HZ.out.two.below)).mono ?_
  rintro e w1 ⟨rfl, h1⟩
  have Z1 := Lib.hid (HZ.out.to h1)
  clear h1 c1 c2
  go_upto_region 2 with fail
  have P0 := Lib.hid (BxT.new w1 w.heap.size Z1.out.two.below.size 78 (.int .i64 v1) (.int .i64 u1))
  have Z2 := Lib.hid (Z1.out.to ((Below.refl _ _).alloc (Nat.le_refl _) (.cells #[.int .i64 v1, .int .i64 u1] 78)))
  obtain ⟨gp, hgp⟩ : ∃ g, g = w1.heap.size := ⟨_, rfl⟩
  obtain ⟨W2, hW2⟩ : ∃ W2, W2 = w1.alloc (.cells #[.int .i64 v1, .int .i64 u1] 78) := ⟨_, rfl⟩
  rw [← hgp, ← hW2] at P0
  rw [← hW2] at Z2
  rw [← hW2, ← hgp]
  clear hgp hW2 Z1
  have c1 := Z2.out.two.two.num
  have c2 := Z2.out.two.two.den
  go_wp2_with fail
  refine (HF2'.out _ (HS.out.below Z2.out.two.below)).mono ?_
  rintro e w3 ⟨rfl, h3⟩
  have Z3 := Lib.hid (Z2.out.to h3)
  have P3 := Lib.hid (P0.out.kept h3)
  clear h3 c1 c2 P0 Z2
  go_upto_region 3 with fail
  have Q4 := Lib.hid (BxT.new w3 w.heap.size Z3.out.two.below.size 78 (.int .i64 v2) (.int .i64 u2))
  have Z4 := Lib.hid (Z3.out.to ((Below.refl _ _).alloc (Nat.le_refl _) (.cells #[.int .i64 v2, .int .i64 u2] 78)))
  have P4 := Lib.hid (P3.out.allocY (.cells #[.int .i64 v2, .int .i64 u2] 78))
  obtain ⟨gq, hgq⟩ : ∃ g, g = w3.heap.size := ⟨_, rfl⟩
  obtain ⟨W4, hW4⟩ : ∃ W4, W4 = w3.alloc (.cells #[.int .i64 v2, .int .i64 u2] 78) := ⟨_, rfl⟩
  rw [← hgq, ← hW4] at Q4
  rw [← hW4] at Z4 P4
  rw [← hW4, ← hgq]
  clear hgq hW4 Z3 P3
  have hpq := Lib.hid (show (k1 && k2) = (k1 && k2) from rfl)
  cases k1 with
  | false =>
    go_wp2_with fail
    refine (HL.out _ (HS.out.below Z4.out.two.below) Z4.out.two.below).mono ?_
    rintro e w7 ⟨rfl, h7⟩
    have Z7 := Z4.out.to h7
    have f0 := Z7.res.free 0
    have e0 := Z7.res.c0
    have e1 := Z7.res.c1
    have S0 := Z7.res.set0 (.string rs)
    have S1 := S0.set1 (.string rt)
    have f1 := S0.free 1
    have g1 := S0.c1
    have x0 := S1.c0
    have x1 := S1.c1
    have HBE := Lib.hid ((Z7.two.below.setCell (p := ⟨w.heap.size + 1 + 1, 0, none⟩) (by show w.heap.size ≤ w.heap.size + 1 + 1; omega) (.string rs)).setCell (p := ⟨w.heap.size + 1 + 1, 1, none⟩) (by show w.heap.size ≤ w.heap.size + 1 + 1; omega) (.string rt))
    clear S0 S1 h7 Z7
    go_wp2_with fail
    (try simp only [Exit.inBlock, Exit.then])
    refine bodyPost_ret (v := ratV rs rt) ?_ rfl ⟨rfl, HBE.out⟩
    rw [results_cell_one rfl]
    go_simp
  | true =>
    cases k2 with
    | false =>
      go_wp2_with fail
      refine (HL.out _ (HS.out.below Z4.out.two.below) Z4.out.two.below).mono ?_
      rintro e w7 ⟨rfl, h7⟩
      have Z7 := Z4.out.to h7
      have f0 := Z7.res.free 0
      have e0 := Z7.res.c0
      have e1 := Z7.res.c1
      have S0 := Z7.res.set0 (.string rs)
      have S1 := S0.set1 (.string rt)
      have f1 := S0.free 1
      have g1 := S0.c1
      have x0 := S1.c0
      have x1 := S1.c1
      have HBE := Lib.hid ((Z7.two.below.setCell (p := ⟨w.heap.size + 1 + 1, 0, none⟩) (by show w.heap.size ≤ w.heap.size + 1 + 1; omega) (.string rs)).setCell (p := ⟨w.heap.size + 1 + 1, 1, none⟩) (by show w.heap.size ≤ w.heap.size + 1 + 1; omega) (.string rt))
      clear S0 S1 h7 Z7
      go_wp2_with fail
      (try simp only [Exit.inBlock, Exit.then])
      refine bodyPost_ret (v := ratV rs rt) ?_ rfl ⟨rfl, HBE.out⟩
      rw [results_cell_one rfl]
      go_simp
    | true =>
      obtain ⟨rfl, rfl, hk1⟩ := HKA.out (by first | trivial | rfl)
      obtain ⟨rfl, rfl, hk2⟩ := HKB.out (by first | trivial | rfl)
      have HQ2 := Lib.hid (HQ.out W4 (HS.out.below Z4.out.two.below) hk1 hk2)
      have y0 := P4.out.c0
      have y1 := P4.out.c1
      have y2 := Q4.out.c0
      have y3 := Q4.out.c1
      clear hk1 hk2 HKA HKB HQ hpq
      go_wp2_with fail
      refine HQ2.out.mono ?_
      rintro e w5 ⟨⟨ok, rfl⟩, h5⟩
      have Z5 := Lib.hid (Z4.out.to h5)
      clear h5 y0 y1 y2 y3
      cases ok with
      | false =>
        rw [if_neg (by decide), if_neg (by decide)]
        have Z6 := Lib.hid (Z5.out.to ((Below.refl _ _).alloc (Nat.le_refl _) (.cells #[.string ⟨#[]⟩, .string ⟨#[]⟩] 24)))
        go_wp2_with fail
        refine (HL.out _ (HS.out.below Z6.out.two.below) Z6.out.two.below).mono ?_
        rintro e w7 ⟨rfl, h7⟩
        have Z7 := Z6.out.to h7
        have f0 := Z7.res.free 0
        have e0 := Z7.res.c0
        have e1 := Z7.res.c1
        have S0 := Z7.res.set0 (.string rs)
        have S1 := S0.set1 (.string rt)
        have f1 := S0.free 1
        have g1 := S0.c1
        have x0 := S1.c0
        have x1 := S1.c1
        have HBE := Lib.hid ((Z7.two.below.setCell (p := ⟨w.heap.size + 1 + 1, 0, none⟩) (by show w.heap.size ≤ w.heap.size + 1 + 1; omega) (.string rs)).setCell (p := ⟨w.heap.size + 1 + 1, 1, none⟩) (by show w.heap.size ≤ w.heap.size + 1 + 1; omega) (.string rt))
        clear S0 S1 h7 Z7
        go_wp2_with fail
        (try simp only [Exit.inBlock, Exit.then])
        refine bodyPost_ret (v := ratV rs rt) ?_ rfl ⟨rfl, HBE.out⟩
        rw [results_cell_one rfl]
        go_simp
      | true =>
        rw [if_pos rfl, if_pos rfl]
        have hlt := Z5.out.res.lt.2
        have A := BxT.new w5 w.heap.size Z5.out.two.below.size 24 (.string rs) (.string rt)
        have cc0 := A.c0
        have cc1 := A.c1
        have R1 := Z5.out.res.allocY (.cells #[.string rs, .string rt] 24)
        have f0 := R1.free 0
        have e0 := R1.c0
        have e1 := R1.c1
        have S0 := R1.set0 (.string rs)
        have S1 := S0.set1 (.string rt)
        have f1 := S0.free 1
        have g1 := S0.c1
        have x0 := S1.c0
        have x1 := S1.c1
        have T0 := Z5.out.res.set0 (.string rs)
        have T1 := T0.set1 (.string rt)
        have f0b := Z5.out.res.free 0
        have e0b := Z5.out.res.c0
        have e1b := Z5.out.res.c1
        have f1b := T0.free 1
        have g1b := T0.c1
        have u0b := T1.c0
        have u1b := T1.c1
        have hE := (Z5.out.two.below.setCell (p := ⟨w.heap.size + 1 + 1, 0, none⟩) (by show w.heap.size ≤ w.heap.size + 1 + 1; omega) (.string rs)).setCell (p := ⟨w.heap.size + 1 + 1, 1, none⟩) (by show w.heap.size ≤ w.heap.size + 1 + 1; omega) (.string rt)
        have HBE := Lib.hid (hE.alloc hE.size (.cells #[.string rs, .string rt] 24))
        clear S0 S1 A R1 T0 T1 hE
        go_wp2_with fail
        (try simp only [Exit.inBlock, Exit.then])
        refine bodyPost_ret (v := ratV rs rt) ?_ rfl ⟨rfl, HBE.out⟩
        rw [results_cell_one rfl]
        go_simp
set_option maxHeartbeats 1600000 in
set_option maxRecDepth 100000 in
theorem mulF_any (n1 d1 n2 d2 : Int) (w : World) (hs : Std w) (h1 : (str n1.natAbs).size ≤ 10000) (h2 : (str d1.natAbs).size ≤ 10000) (h3 : (str n2.natAbs).size ≤ 10000) (h4 : (str d2.natAbs).size ≤ 10000) (p1 : 0 < d1) (p2 : 0 < d2) :
    Calls Tryz.prog 42 #[ratV (zS n1) (zS d1), ratV (zS n2) (zS d2)] w fun e w' => e = .returned (ratV (zS (lowN (n1 * n2) (d1 * d2).natAbs)) (str (lowD (n1 * n2) (d1 * d2).natAbs))) ∧ Below w.heap.size w w' := by
  have HE := Lib.hid (fun (wx : World) (hz : Bg w wx (zS n1) (zS d1) (zS n2) (zS d2)) => eiMul n1 d1 n2 d2 w.heap.size (w.heap.size + 1) wx (hs.below hz.two.below) hz.two.one hz.two.two h1 h2 h3 h4 p1 p2)
  obtain ⟨rs, hrs⟩ : ∃ s, s = zS (lowN (n1 * n2) (d1 * d2).natAbs) := ⟨_, rfl⟩
  obtain ⟨rt, hrt⟩ : ∃ s, s = str (lowD (n1 * n2) (d1 * d2).natAbs) := ⟨_, rfl⟩
  rw [← hrs, ← hrt] at HE ⊢
  obtain ⟨s1, hs1⟩ : ∃ s, s = zS n1 := ⟨_, rfl⟩
  obtain ⟨t1, ht1⟩ : ∃ s, s = zS d1 := ⟨_, rfl⟩
  obtain ⟨s2, hs2⟩ : ∃ s, s = zS n2 := ⟨_, rfl⟩
  obtain ⟨t2, ht2⟩ : ∃ s, s = zS d2 := ⟨_, rfl⟩
  rw [← hs1, ← ht1, ← hs2, ← ht2] at HE ⊢
  have HZ := Lib.hid (Bg.new w s1 t1 s2 t2)
  clear hs h1 h2 h3 h4 p1 p2 hs1 ht1 hs2 ht2 hrs hrt
  have hmf : ∀ (fn : Fn) (first cap : Array Value) (w : World), (Instr.makeFunc fn first cap).run Tryz.prog w = .ok (.func fn first cap) w := fun _ _ _ _ => rfl
  go_enter Tryz.func42, Tryz.ntmps42
  go_upto_region 1 with fail
  obtain ⟨W0, hW0⟩ : ∃ W0, W0 = ((w.alloc (ratO s1 t1)).alloc (ratO s2 t2)).alloc (.cells #[.string ⟨#[]⟩, .string ⟨#[]⟩] 24) := ⟨_, rfl⟩
  rw [← hW0] at HZ ⊢
  clear hW0
  have c1 := HZ.out.two.one.num
  have c2 := HZ.out.two.one.den
  have c3 := HZ.out.two.two.num
  have c4 := HZ.out.two.two.den
  go_wp2_with fail
  refine (HE.out _ HZ.out).mono ?_
  rintro e w1 ⟨rfl, h1⟩
  have Z1 := HZ.out.to h1
  have f0 := Z1.res.free 0
  have e0 := Z1.res.c0
  have e1 := Z1.res.c1
  have S0 := Z1.res.set0 (.string rs)
  have S1 := S0.set1 (.string rt)
  have f1 := S0.free 1
  have g1 := S0.c1
  have x0 := S1.c0
  have x1 := S1.c1
  have HBE := Lib.hid ((Z1.two.below.setCell (p := ⟨w.heap.size + 1 + 1, 0, none⟩) (by show w.heap.size ≤ w.heap.size + 1 + 1; omega) (.string rs)).setCell (p := ⟨w.heap.size + 1 + 1, 1, none⟩) (by show w.heap.size ≤ w.heap.size + 1 + 1; omega) (.string rt))
  clear S0 S1 h1 Z1 c1 c2 c3 c4
  go_wp2_with fail
  (try simp only [Exit.inBlock, Exit.then])
  refine bodyPost_ret (v := ratV rs rt) ?_ rfl ⟨rfl, HBE.out⟩
  rw [results_cell_one rfl]
  go_simp
end Go.Proofs.YtdgbplppabalgaaGreatDoor

namespace Go.Proofs.YtdgbplppabalgaaGreatDoor
open Go.RowKit

theorem BxR.farS {W : World} {g gx i : Nat} {n d : ByteArray} (h : BxR W g n d) (hne : gx ≠ g) (x : Value) : BxR (W.setCell ⟨gx, i, none⟩ x) g n d :=
  ⟨Nat.lt_of_lt_of_le h.lt ((Below.refl 0 W).setCell (p := ⟨gx, i, none⟩) (Nat.zero_le _) x).size, by rw [World.cell?_setCell_far _ _ _ _ hne]; exact h.num, by rw [World.cell?_setCell_far _ _ _ _ hne]; exact h.den⟩
/-- two boxes of fractions, the result's cell, and another box -/
structure Bd (w W : World) (s1 t1 s2 t2 : ByteArray) (gx : Nat) (p q : ByteArray) : Prop where
  big : Bg w W s1 t1 s2 t2
  inv : BxT W (w.heap.size + 3) gx 24 (.string p) (.string q)
theorem Bd.to {w W W' : World} {s1 t1 s2 t2 p q : ByteArray} {gx : Nat} (h : Bd w W s1 t1 s2 t2 gx p q) (hb : Below W.heap.size W W') : Bd w W' s1 t1 s2 t2 gx p q := ⟨h.big.to hb, h.inv.kept hb⟩
theorem Bd.put {w W : World} {s1 t1 s2 t2 p q : ByteArray} {gx : Nat} (h : Bd w W s1 t1 s2 t2 gx p q) (u v : ByteArray) : Bd w ((W.setCell ⟨gx, 0, none⟩ (.string u)).setCell ⟨gx, 1, none⟩ (.string v)) s1 t1 s2 t2 gx u v := by
  have hg := h.inv.lt.1
  have n0 : gx ≠ w.heap.size := by omega
  have n1 : gx ≠ w.heap.size + 1 := by omega
  have n2 : w.heap.size + 1 + 1 ≠ gx := by omega
  exact ⟨⟨⟨(h.big.two.below.setCell (p := ⟨gx, 0, none⟩) (show w.heap.size ≤ gx by omega) _).setCell (p := ⟨gx, 1, none⟩) (show w.heap.size ≤ gx by omega) _, (h.big.two.one.farS n0 _).farS n0 _, (h.big.two.two.farS n1 _).farS n1 _⟩, (h.big.res.other (p := ⟨gx, 0, none⟩) n2 _).other (p := ⟨gx, 1, none⟩) n2 _⟩, (h.inv.set0 (.string u)).set1 (.string v)⟩
theorem Bg.roomy {w W : World} {s1 t1 s2 t2 : ByteArray} (h : Bg w W s1 t1 s2 t2) : w.heap.size + 3 ≤ W.heap.size := h.res.lt.2
theorem Bg.box {w W : World} {s1 t1 s2 t2 : ByteArray} (h : Bg w W s1 t1 s2 t2) (p q : ByteArray) : Bd w (W.alloc (.cells #[.string p, .string q] 24)) s1 t1 s2 t2 W.heap.size p q :=
  ⟨h.to ((Below.refl _ _).alloc (Nat.le_refl _) _), BxT.new W (w.heap.size + 3) h.roomy 24 (.string p) (.string q)⟩
set_option maxHeartbeats 1600000 in
theorem divF_zero (s1 t1 t2 : ByteArray) (w : World) :
    Calls Tryz.prog 41 #[ratV s1 t1, ratV (zS 0) t2] w fun e w' => e = .returned (.tuple #[ratV ⟨#[]⟩ ⟨#[]⟩, .int .i64 17]) ∧ Below w.heap.size w w' := by
  have HSG := Lib.hid (fun wx => signF_any 0 t2 wx (Nat.le_trans (str_big (n := 1) (by decide) (by decide)) (by decide)))
  rw [sgnI_zero] at HSG
  obtain ⟨s2, hs2⟩ : ∃ s, s = zS 0 := ⟨_, rfl⟩
  rw [← hs2] at HSG ⊢
  have HZ := Lib.hid (Bg.new w s1 t1 s2 t2)
  clear hs2
  go_enter Tryz.func41, Tryz.ntmps41
  go_upto_region 1 with fail
  obtain ⟨W0, hW0⟩ : ∃ W0, W0 = ((w.alloc (ratO s1 t1)).alloc (ratO s2 t2)).alloc (.cells #[.string ⟨#[]⟩, .string ⟨#[]⟩] 24) := ⟨_, rfl⟩
  rw [← hW0] at HZ ⊢
  clear hW0
  have c1 := HZ.out.two.two.num
  have c2 := HZ.out.two.two.den
  go_wp2_with fail
  refine (HSG.out _).mono ?_
  rintro e w1 ⟨rfl, h1⟩
  have Z1 := HZ.out.to h1
  obtain ⟨f0, e0, e1, f1, g1, x0, x1⟩ := Z1.res.stores (.string ⟨#[]⟩) (.string ⟨#[]⟩)
  have HBE := Lib.hid ((Z1.two.below.setCell (p := ⟨w.heap.size + 1 + 1, 0, none⟩) (show w.heap.size ≤ w.heap.size + 1 + 1 by omega) (.string ⟨#[]⟩)).setCell (p := ⟨w.heap.size + 1 + 1, 1, none⟩) (show w.heap.size ≤ w.heap.size + 1 + 1 by omega) (.string ⟨#[]⟩))
  clear h1 c1 c2 Z1
  go_wp2_with fail
  (try simp only [Exit.inBlock, Exit.then])
  refine bodyPost_ret (v := .tuple #[ratV ⟨#[]⟩ ⟨#[]⟩, .int .i64 17]) ?_ rfl ⟨rfl, HBE.out⟩
  rw [results_cell_tmp rfl]
  go_simp
set_option maxHeartbeats 3200000 in
set_option maxRecDepth 100000 in
theorem divF_pos (n1 d1 n2 d2 : Int) (w : World) (hs : Std w) (h1 : (str n1.natAbs).size ≤ 10000) (h2 : (str d1.natAbs).size ≤ 10000) (h3 : (str n2.natAbs).size ≤ 10000) (h4 : (str d2.natAbs).size ≤ 10000) (p1 : 0 < d1) (hn : 0 < n2) :
    Calls Tryz.prog 41 #[ratV (zS n1) (zS d1), ratV (zS n2) (zS d2)] w fun e w' => e = .returned (.tuple #[ratV (zS (newN (n1 * d2) (d1 * n2))) (str (newD (n1 * d2) (d1 * n2))), .int .i64 0]) ∧ Below w.heap.size w w' := by
  have HSG := Lib.hid (fun wx => signF_any n2 (zS d2) wx (by omega))
  rw [sgnI_pos hn] at HSG
  have HAB := Lib.hid (fun wx (_ : Std wx) => abs_any n2 wx (by omega))
  have hv : zS n2 = str n2.natAbs := zS_pos (by omega)
  have HMU := Lib.hid (fun wx (hw : Std wx) => mulF_any n1 d1 d2 n2 wx hw h1 h2 h4 h3 p1 hn)
  have e3 := (new_pos (n1 * d2) (Int.mul_pos p1 hn)).1
  have e4 := (new_pos (n1 * d2) (Int.mul_pos p1 hn)).2
  rw [← e3, ← e4] at HMU
  conv at HMU => rw [show (#[ratV (zS n1) (zS d1), ratV (zS d2) (zS n2)] : Array Value) = #[ratV (zS n1) (zS d1), ratV (zS d2) (str n2.natAbs)] by rw [hv]]
  obtain ⟨u, hu2⟩ : ∃ s, s = str n2.natAbs := ⟨_, rfl⟩
  obtain ⟨s1, hs1⟩ : ∃ s, s = zS n1 := ⟨_, rfl⟩
  obtain ⟨t1, ht1⟩ : ∃ s, s = zS d1 := ⟨_, rfl⟩
  obtain ⟨s2, hs2⟩ : ∃ s, s = zS n2 := ⟨_, rfl⟩
  obtain ⟨t2, ht2⟩ : ∃ s, s = zS d2 := ⟨_, rfl⟩
  obtain ⟨rs, hrs⟩ : ∃ s, s = zS (newN (n1 * d2) (d1 * n2)) := ⟨_, rfl⟩
  obtain ⟨rt, hrt⟩ : ∃ s, s = str (newD (n1 * d2) (d1 * n2)) := ⟨_, rfl⟩
  rw [← hs1, ← ht1, ← ht2, ← hu2, ← hrs, ← hrt] at HMU
  rw [← hs2, ← ht2] at HSG
  rw [← hs2, ← hu2] at HAB
  rw [← hs1, ← ht1, ← hs2, ← ht2, ← hrs, ← hrt]
  have HZ := Lib.hid (Bg.new w s1 t1 s2 t2)
  have HS := Lib.hid hs
  clear hs h1 h2 h3 h4 p1 hn hu2 hs1 ht1 hs2 ht2 hrs hrt hv e3 e4
  go_enter Tryz.func41, Tryz.ntmps41
  go_upto_region 1 with fail
  obtain ⟨W0, hW0⟩ : ∃ W0, W0 = ((w.alloc (ratO s1 t1)).alloc (ratO s2 t2)).alloc (.cells #[.string ⟨#[]⟩, .string ⟨#[]⟩] 24) := ⟨_, rfl⟩
  rw [← hW0] at HZ ⊢
  clear hW0
  have c1 := HZ.out.two.two.num
  have c2 := HZ.out.two.two.den
  go_wp2_with fail
  refine (HSG.out _).mono ?_
  rintro e w1 ⟨rfl, h1⟩
  have Z1 := Lib.hid (HZ.out.to h1)
  clear h1 c1 c2
  go_upto_region 4 with fail
  go_cut [7] from 13 to 18 (fun a wx => ∃ gx : Nat, a = .pointer (some ⟨gx, 0, none⟩) ∧ Bd w wx s1 t1 s2 t2 gx t2 u)
  case first =>
    have HC := Lib.hid (show ∀ wx, Bg w wx s1 t1 s2 t2 → wx.cell? ⟨w.heap.size + 1, 0, none⟩ = some (.string s2) ∧ wx.cell? ⟨w.heap.size + 1, 1, none⟩ = some (.string t2) from fun wx hx => ⟨hx.two.two.num, hx.two.two.den⟩)
    have Y0 := Lib.hid (Z1.out.to (Below.drew (Below.refl _ _)))
    go_region_held3 (fun W => W.cell? ⟨w.heap.size + 1, 0, none⟩ = some (.string s2) ∧ W.cell? ⟨w.heap.size + 1, 1, none⟩ = some (.string t2)) (first | exact HC.out _ BST.out.big | exact HC.out _ Y1.out | exact HC.out _ (Y1.out.box _ _).big | exact HC.out _ Y0.out | exact HC.out _ (Y0.out.box _ _).big) (first | (go_at_call 98; first | (refine (HAB.out _ (HS.out.below Y0.out.two.below)).mono ?_; rintro e v1 ⟨rfl, h⟩; have Y1 := Lib.hid (Y0.out.to h); have PB := Lib.hid (Y1.out.box ⟨#[]⟩ ⟨#[]⟩); obtain ⟨f0, e0, e1, f1, g1, x0, x1⟩ := PB.out.inv.stores (.string t2) (.string u); have BSA := Lib.hid (Y1.out.box t2 u); have cc0 := BSA.out.inv.c0; have cc1 := BSA.out.inv.c1; have BST := Lib.hid (PB.out.put t2 u); clear h) | (have PB := Lib.hid (show Bd w (w1.drew.alloc (.cells #[.string ⟨#[]⟩, .string ⟨#[]⟩] 24)) s1 t1 s2 t2 w1.heap.size ⟨#[]⟩ ⟨#[]⟩ from Y0.out.box ⟨#[]⟩ ⟨#[]⟩); refine (HAB.out _ (HS.out.below PB.out.big.two.below)).mono ?_; rintro e v1 ⟨rfl, h⟩; have P1 := Lib.hid (PB.out.to h); obtain ⟨f0, e0, e1, f1, g1, x0, x1⟩ := P1.out.inv.stores (.string t2) (.string u); have BST := Lib.hid (P1.out.put t2 u); have Y1 := Lib.hid P1.out.big; clear h PB)))
    all_goals (
      go_wp2_with fail
      go_meet
      first | exact ⟨_, rfl, BSA.out⟩ | exact ⟨_, rfl, BST.out⟩)
  case rest =>
    obtain ⟨gx, rfl, hbd⟩ := hcut
    have D2 := Lib.hid hbd
    clear hbd Z1
    have y1 := D2.out.big.two.one.num
    have y2 := D2.out.big.two.one.den
    have y3 := D2.out.inv.c0
    have y4 := D2.out.inv.c1
    go_wp2_with fail
    refine (HMU.out _ (HS.out.below D2.out.big.two.below)).mono ?_
    rintro e w5 ⟨rfl, h5⟩
    have Z5 := D2.out.big.to h5
    obtain ⟨f0, e0, e1, f1, g1, x0, x1⟩ := Z5.res.stores (.string rs) (.string rt)
    have HBE := Lib.hid ((Z5.two.below.setCell (p := ⟨w.heap.size + 1 + 1, 0, none⟩) (show w.heap.size ≤ w.heap.size + 1 + 1 by omega) (.string rs)).setCell (p := ⟨w.heap.size + 1 + 1, 1, none⟩) (show w.heap.size ≤ w.heap.size + 1 + 1 by omega) (.string rt))
    clear h5 Z5 y1 y2 y3 y4
    go_wp2_with fail
    (try simp only [Exit.inBlock, Exit.then])
    refine bodyPost_ret (v := .tuple #[ratV rs rt, .int .i64 0]) ?_ rfl ⟨rfl, HBE.out⟩
    rw [results_cell_tmp rfl]
    go_simp
set_option maxHeartbeats 3200000 in
set_option maxRecDepth 100000 in
theorem divF_neg (n1 d1 n2 d2 : Int) (w : World) (hs : Std w) (h1 : (str n1.natAbs).size ≤ 10000) (h2 : (str d1.natAbs).size ≤ 10000) (h3 : (str n2.natAbs).size ≤ 10000) (h4 : (str d2.natAbs).size ≤ 10000) (p1 : 0 < d1) (hn : n2 < 0) :
    Calls Tryz.prog 41 #[ratV (zS n1) (zS d1), ratV (zS n2) (zS d2)] w fun e w' => e = .returned (.tuple #[ratV (zS (newN (n1 * d2) (d1 * n2))) (str (newD (n1 * d2) (d1 * n2))), .int .i64 0]) ∧ Below w.heap.size w w' := by
  have HSG := Lib.hid (fun wx => signF_any n2 (zS d2) wx (by omega))
  rw [sgnI_neg' hn] at HSG
  have HAB := Lib.hid (fun wx (_ : Std wx) => abs_any n2 wx (by omega))
  have hu : ((n2.natAbs : Nat) : Int) = -n2 := by omega
  have hv : zS (-n2) = str n2.natAbs := by rw [zS_pos (by omega), Int.natAbs_neg]
  have HNG := Lib.hid (fun wx => negF_any d2 (str n2.natAbs) wx (by omega))
  have HMU := Lib.hid (fun wx (hw : Std wx) => mulF_any n1 d1 (-d2) (-n2) wx hw h1 h2 (by rw [Int.natAbs_neg]; exact h4) (by rw [Int.natAbs_neg]; exact h3) p1 (by omega))
  have e1 : n1 * -d2 = -(n1 * d2) := Int.mul_neg _ _
  have e2 : d1 * -n2 = -(d1 * n2) := Int.mul_neg _ _
  have hneg : d1 * n2 < 0 := Int.mul_neg_of_pos_of_neg p1 hn
  have e3 : newN (n1 * d2) (d1 * n2) = lowN (n1 * -d2) (d1 * -n2).natAbs := by unfold newN; rw [if_pos hneg, e1, e2, Int.natAbs_neg]
  have e4 : newD (n1 * d2) (d1 * n2) = lowD (n1 * -d2) (d1 * -n2).natAbs := by unfold newD; rw [if_pos hneg, e1, e2, Int.natAbs_neg]
  rw [← e3, ← e4, hv] at HMU
  obtain ⟨u, hu2⟩ : ∃ s, s = str n2.natAbs := ⟨_, rfl⟩
  obtain ⟨s1, hs1⟩ : ∃ s, s = zS n1 := ⟨_, rfl⟩
  obtain ⟨t1, ht1⟩ : ∃ s, s = zS d1 := ⟨_, rfl⟩
  obtain ⟨s2, hs2⟩ : ∃ s, s = zS n2 := ⟨_, rfl⟩
  obtain ⟨t2, ht2⟩ : ∃ s, s = zS d2 := ⟨_, rfl⟩
  obtain ⟨rs, hrs⟩ : ∃ s, s = zS (newN (n1 * d2) (d1 * n2)) := ⟨_, rfl⟩
  obtain ⟨rt, hrt⟩ : ∃ s, s = str (newD (n1 * d2) (d1 * n2)) := ⟨_, rfl⟩
  obtain ⟨m, hm⟩ : ∃ s, s = zS (-d2) := ⟨_, rfl⟩
  rw [← ht2, ← hu2, ← hm] at HNG
  rw [← hs1, ← ht1, ← hm, ← hu2, ← hrs, ← hrt] at HMU
  rw [← hs2, ← ht2] at HSG
  rw [← hs2, ← hu2] at HAB
  rw [← hs1, ← ht1, ← hs2, ← ht2, ← hrs, ← hrt]
  have HZ := Lib.hid (Bg.new w s1 t1 s2 t2)
  have HS := Lib.hid hs
  clear hs h1 h2 h3 h4 p1 hn hu2 hs1 ht1 hs2 ht2 hrs hrt hv e3 e4 hu hm e1 e2 hneg
  go_enter Tryz.func41, Tryz.ntmps41
  go_upto_region 1 with fail
  obtain ⟨W0, hW0⟩ : ∃ W0, W0 = ((w.alloc (ratO s1 t1)).alloc (ratO s2 t2)).alloc (.cells #[.string ⟨#[]⟩, .string ⟨#[]⟩] 24) := ⟨_, rfl⟩
  rw [← hW0] at HZ ⊢
  clear hW0
  have c1 := HZ.out.two.two.num
  have c2 := HZ.out.two.two.den
  go_wp2_with fail
  refine (HSG.out _).mono ?_
  rintro e w1 ⟨rfl, h1⟩
  have Z1 := Lib.hid (HZ.out.to h1)
  clear h1 c1 c2
  go_upto_region 4 with fail
  go_cut [7] from 13 to 18 (fun a wx => ∃ gx : Nat, a = .pointer (some ⟨gx, 0, none⟩) ∧ Bd w wx s1 t1 s2 t2 gx t2 u)
  case first =>
    have HC := Lib.hid (show ∀ wx, Bg w wx s1 t1 s2 t2 → wx.cell? ⟨w.heap.size + 1, 0, none⟩ = some (.string s2) ∧ wx.cell? ⟨w.heap.size + 1, 1, none⟩ = some (.string t2) from fun wx hx => ⟨hx.two.two.num, hx.two.two.den⟩)
    have Y0 := Lib.hid (Z1.out.to (Below.drew (Below.refl _ _)))
    go_region_held3 (fun W => W.cell? ⟨w.heap.size + 1, 0, none⟩ = some (.string s2) ∧ W.cell? ⟨w.heap.size + 1, 1, none⟩ = some (.string t2)) (first | exact HC.out _ BST.out.big | exact HC.out _ Y1.out | exact HC.out _ (Y1.out.box _ _).big | exact HC.out _ Y0.out | exact HC.out _ (Y0.out.box _ _).big) (first | (go_at_call 98; first | (refine (HAB.out _ (HS.out.below Y0.out.two.below)).mono ?_; rintro e v1 ⟨rfl, h⟩; have Y1 := Lib.hid (Y0.out.to h); have PB := Lib.hid (Y1.out.box ⟨#[]⟩ ⟨#[]⟩); obtain ⟨f0, e0, e1, f1, g1, x0, x1⟩ := PB.out.inv.stores (.string t2) (.string u); have BSA := Lib.hid (Y1.out.box t2 u); have cc0 := BSA.out.inv.c0; have cc1 := BSA.out.inv.c1; have BST := Lib.hid (PB.out.put t2 u); clear h) | (have PB := Lib.hid (show Bd w (w1.drew.alloc (.cells #[.string ⟨#[]⟩, .string ⟨#[]⟩] 24)) s1 t1 s2 t2 w1.heap.size ⟨#[]⟩ ⟨#[]⟩ from Y0.out.box ⟨#[]⟩ ⟨#[]⟩); refine (HAB.out _ (HS.out.below PB.out.big.two.below)).mono ?_; rintro e v1 ⟨rfl, h⟩; have P1 := Lib.hid (PB.out.to h); obtain ⟨f0, e0, e1, f1, g1, x0, x1⟩ := P1.out.inv.stores (.string t2) (.string u); have BST := Lib.hid (P1.out.put t2 u); have Y1 := Lib.hid P1.out.big; clear h PB)))
    all_goals (
      go_wp2_with fail
      go_meet
      first | exact ⟨_, rfl, BSA.out⟩ | exact ⟨_, rfl, BST.out⟩)
  case rest =>
    obtain ⟨gx, rfl, hbd⟩ := hcut
    have D2 := Lib.hid hbd
    clear hbd Z1
    have y3 := D2.out.inv.c0
    have y4 := D2.out.inv.c1
    go_wp2_with fail
    refine (HNG.out _).mono ?_
    rintro e w4 ⟨rfl, h4⟩
    have D4 := Lib.hid (D2.out.to h4)
    obtain ⟨f0, e0, e1, f1, g1, x0, x1⟩ := D4.out.inv.stores (.string m) (.string u)
    have D5 := Lib.hid (D4.out.put m u)
    clear h4 y3 y4
    go_upto_region 7 with fail
    obtain ⟨W5, hW5⟩ : ∃ W5, W5 = (w4.setCell ⟨gx, 0, none⟩ (.string m)).setCell ⟨gx, 1, none⟩ (.string u) := ⟨_, rfl⟩
    rw [← hW5] at D5 x0 x1 ⊢
    clear hW5 f0 e0 e1 f1 g1 x0 x1 D4
    have y1 := D5.out.big.two.one.num
    have y2 := D5.out.big.two.one.den
    have y3 := D5.out.inv.c0
    have y4 := D5.out.inv.c1
    go_wp2_with fail
    refine (HMU.out _ (HS.out.below D5.out.big.two.below)).mono ?_
    rintro e w5 ⟨rfl, h5⟩
    have Z5 := D5.out.big.to h5
    obtain ⟨f0, e0, e1, f1, g1, x0, x1⟩ := Z5.res.stores (.string rs) (.string rt)
    have HBE := Lib.hid ((Z5.two.below.setCell (p := ⟨w.heap.size + 1 + 1, 0, none⟩) (show w.heap.size ≤ w.heap.size + 1 + 1 by omega) (.string rs)).setCell (p := ⟨w.heap.size + 1 + 1, 1, none⟩) (show w.heap.size ≤ w.heap.size + 1 + 1 by omega) (.string rt))
    clear h5 Z5 y1 y2 y3 y4
    go_wp2_with fail
    (try simp only [Exit.inBlock, Exit.then])
    refine bodyPost_ret (v := .tuple #[ratV rs rt, .int .i64 0]) ?_ rfl ⟨rfl, HBE.out⟩
    rw [results_cell_tmp rfl]
    go_simp
theorem divF_any (n1 d1 n2 d2 : Int) (w : World) (hs : Std w) (h1 : (str n1.natAbs).size ≤ 10000) (h2 : (str d1.natAbs).size ≤ 10000) (h3 : (str n2.natAbs).size ≤ 10000) (h4 : (str d2.natAbs).size ≤ 10000) (p1 : 0 < d1) (hn : n2 ≠ 0) :
    Calls Tryz.prog 41 #[ratV (zS n1) (zS d1), ratV (zS n2) (zS d2)] w fun e w' => e = .returned (.tuple #[ratV (zS (newN (n1 * d2) (d1 * n2))) (str (newD (n1 * d2) (d1 * n2))), .int .i64 0]) ∧ Below w.heap.size w w' := by
  by_cases h : 0 < n2
  · exact divF_pos n1 d1 n2 d2 w hs h1 h2 h3 h4 p1 h
  · exact divF_neg n1 d1 n2 d2 w hs h1 h2 h3 h4 p1 (by omega)
end Go.Proofs.YtdgbplppabalgaaGreatDoor

namespace Go.Proofs.YtdgbplppabalgaaGreatDoor
open Go.RowKit

theorem Rw.new2 (w : World) (s t s' t' : ByteArray) (T : TypeId) : Rw (w.alloc (.cells #[.string s, .string t, .string s', .string t'] T)) w.heap.size [s, t, s', t'] :=
  ⟨by rw [push_size]; omega, fun i hi => by
    match i, hi with
    | 0, _ => rw [World.cell?_alloc_new]; rfl
    | 1, _ => rw [World.cell?_alloc_new]; rfl
    | 2, _ => rw [World.cell?_alloc_new]; rfl
    | 3, _ => rw [World.cell?_alloc_new]; rfl⟩
theorem Rw.new3 (w : World) (s t s' t' s2 t2 : ByteArray) (T : TypeId) : Rw (w.alloc (.cells #[.string s, .string t, .string s', .string t', .string s2, .string t2] T)) w.heap.size [s, t, s', t', s2, t2] :=
  ⟨by rw [push_size]; omega, fun i hi => by
    match i, hi with
    | 0, _ => rw [World.cell?_alloc_new]; rfl
    | 1, _ => rw [World.cell?_alloc_new]; rfl
    | 2, _ => rw [World.cell?_alloc_new]; rfl
    | 3, _ => rw [World.cell?_alloc_new]; rfl
    | 4, _ => rw [World.cell?_alloc_new]; rfl
    | 5, _ => rw [World.cell?_alloc_new]; rfl⟩
theorem Rw.new1 (w : World) (s t : ByteArray) (T : TypeId) : Rw (w.alloc (.cells #[.string s, .string t] T)) w.heap.size [s, t] :=
  ⟨by rw [push_size]; omega, fun i hi => by
    match i, hi with
    | 0, _ => rw [World.cell?_alloc_new]; rfl
    | 1, _ => rw [World.cell?_alloc_new]; rfl⟩
/-- three boxes of fractions -/
structure B3 (w W : World) (s1 t1 s2 t2 s3 t3 : ByteArray) : Prop where
  duo : Bf w W s1 t1 s2 t2
  three : BxR W (w.heap.size + 1 + 1) s3 t3
theorem B3.to {w W W' : World} {s1 t1 s2 t2 s3 t3 : ByteArray} (h : B3 w W s1 t1 s2 t2 s3 t3) (hb : Below W.heap.size W W') : B3 w W' s1 t1 s2 t2 s3 t3 := ⟨h.duo.to hb, h.three.below hb⟩
theorem B3.new (w : World) (s1 t1 s2 t2 s3 t3 : ByteArray) : B3 w (((w.alloc (ratO s1 t1)).alloc (ratO s2 t2)).alloc (ratO s3 t3)) s1 t1 s2 t2 s3 t3 := by
  have h := BxR.new ((w.alloc (ratO s1 t1)).alloc (ratO s2 t2)) s3 t3
  rw [push_size, push_size] at h
  exact ⟨(Bf.new w s1 t1 s2 t2).to ((Below.refl _ _).alloc (Nat.le_refl _) _), h⟩
/-- the data of a right fraction that is not long -/
structure Ok (s t : ByteArray) (n d : Int) : Prop where
  s : s = zS n
  t : t = zS d
  pos : 0 < d
  sn : (str n.natAbs).size ≤ 100
  sd : (str d.natAbs).size ≤ 100
  fr : Fr n d.natAbs
theorem ok_parts {s t : ByteArray} (h : okF s t = true) : ∃ n d : Int, Ok s t n d := by
  unfold okF at h
  rw [Bool.and_eq_true, Bool.not_eq_true'] at h
  have hz := okF_size h.1
  obtain ⟨n, d, e1, e2, hf⟩ := ri_parts h.2
  have hp := hf.pos
  refine ⟨n, (d : Int), e1, ?_, by omega, ?_, ?_, by rw [Int.natAbs_natCast]; exact hf⟩
  · rw [e2, zS_pos (by omega), Int.natAbs_natCast]
  · have h1 := mag_le (zS n)
    rw [magB_zS, ← e1] at h1; omega
  · rw [Int.natAbs_natCast, ← e2]; omega
/-- the smaller and the larger of two fractions, the first where they are alike -/
theorem cmpZ_flip (x y : Int) : (cmpZ x y < 0 ↔ 0 < cmpZ y x) ∧ (cmpZ x y = 0 ↔ x = y) := by
  have h1 := cmpZ_ways x y
  have h2 := cmpZ_ways y x
  omega
theorem same_of {n1 d1 n2 d2 : Int} (p1 : 0 < d1) (p2 : 0 < d2) (f1 : Fr n1 d1.natAbs) (f2 : Fr n2 d2.natAbs) (h : n1 * d2 = n2 * d1) : n1 = n2 ∧ d1 = d2 := by
  have e1 : ((d1.natAbs : Nat) : Int) = d1 := by omega
  have e2 : ((d2.natAbs : Nat) : Int) = d2 := by omega
  obtain ⟨a, b⟩ := Fr.unique f1 f2 (by rw [e1, e2]; exact h)
  exact ⟨a, by omega⟩
theorem ba_self (s : ByteArray) : (s.toList == s.toList) = true := beq_self_eq_true _
end Go.Proofs.YtdgbplppabalgaaGreatDoor
