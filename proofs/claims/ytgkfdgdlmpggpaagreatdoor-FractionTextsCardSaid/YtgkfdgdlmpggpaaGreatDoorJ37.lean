/-
  Texts of one seat, joined: YRgt YSm YLng.
-/
import Derived.Test.YtgkfdgdlmpggpaaGreatDoorJ30
import Derived.Test.YtgkfdgdlmpggpaaGreatDoorJ23
import Derived.Test.YtgkfdgdlmpggpaaGreatDoorJ32
import Derived.Test.YtgkfdgdlmpggpaaGreatDoorJ36
import Derived.Test.YtgkfdgdlmpggpaaGreatDoorJ31
import Derived.Test.YtgkfdgdlmpggpaaGreatDoorJ35
import Derived.Deep.RegionHeld3
import Derived.Deep.RegionWith
import Derived.Test.YtgkfdgdlmpggpaaGreatDoorJ21
import Derived.BigQuiet
namespace Go.Proofs.YtgkfdgdlmpggpaaGreatDoor
open Go.RowKit

/-- the box of a fraction and the box of a whole of the reference -/
structure Bk (w W : World) (s t : ByteArray) (g : Nat) (V : Bool) (v : Value) : Prop where
  below : Below w.heap.size w W
  box : BxR W w.heap.size s t
  who : BxO W w.heap.size g V v
theorem Bk.to {w W W' : World} {s t : ByteArray} {g : Nat} {V : Bool} {v : Value} (h : Bk w W s t g V v) (hb : Below W.heap.size W W') : Bk w W' s t g V v := ⟨h.below.trans (hb.mono h.below.size), h.box.below hb, h.who.kept hb⟩
theorem one_dec (g : Nat) : ((zS ((g : Nat) : Int)).toList == [49]) = decide (g = 1) := by
  rw [zS_of_nat]
  by_cases h : g = 1
  · rw [decide_eq_true h, h, strOne]; exact ba_yes (l := [49]) rfl
  · rw [decide_eq_false h]; exact ba_ne (l := [49]) (str_one_iff h)
set_option maxHeartbeats 3200000 in
set_option maxRecDepth 100000 in
theorem rightY_any (s t : ByteArray) (w : World) (hs : Std w) (h1s : s.size ≤ 1000001) (h1t : t.size ≤ 1000001) :
    Calls Tryz.prog 15 #[ratV s t] w fun e w' => e = .returned (.bool (riB s t)) ∧ Below w.heap.size w w' := by
  have HZ := Lib.hid (BxR.new w s t)
  have HB := Lib.hid ((Below.refl w.heap.size w).alloc (Nat.le_refl _) (ratO s t))
  have HC1 := Lib.hid (fun wx => canY_any s wx h1s)
  have HC2 := Lib.hid (fun wx => canY_any t wx h1t)
  cases h1 : rgY s with
  | false =>
    rw [h1] at HC1
    have hV := Lib.hid (show riB s t = false by unfold riB; rw [h1]; rfl)
    obtain ⟨V, hVV⟩ : ∃ V, V = riB s t := ⟨_, rfl⟩
    rw [← hVV] at hV ⊢
    clear h1 hVV HC2
    go_enter Tryz.func15, Tryz.ntmps15
    go_upto_region 1 with fail
    obtain ⟨W0, hW0⟩ : ∃ W0, W0 = w.alloc (ratO s t) := ⟨_, rfl⟩
    rw [← hW0] at HZ HB ⊢
    clear hW0
    have c1 := HZ.out.num
    go_wp2_with fail
    refine (HC1.out _).mono ?_
    rintro e w1 ⟨rfl, b1⟩
    obtain rfl := b1
    go_wp2_with fail
    go_ret
    exact ⟨by rw [hV.out]; rfl, HB.out⟩
  | true =>
    cases h2 : rgY t with
    | false =>
      rw [h1] at HC1
      rw [h2] at HC2
      have hV := Lib.hid (show riB s t = false by unfold riB; rw [h1, h2]; rfl)
      obtain ⟨V, hVV⟩ : ∃ V, V = riB s t := ⟨_, rfl⟩
      rw [← hVV] at hV ⊢
      clear h1 h2 hVV
      go_enter Tryz.func15, Tryz.ntmps15
      go_upto_region 1 with fail
      obtain ⟨W0, hW0⟩ : ∃ W0, W0 = w.alloc (ratO s t) := ⟨_, rfl⟩
      rw [← hW0] at HZ HB ⊢
      clear hW0
      have c1 := HZ.out.num
      have c0 := HZ.out.den
      go_wp2_with fail
      refine (HC1.out _).mono ?_
      rintro e w1 ⟨rfl, b1⟩
      obtain rfl := b1
      go_wp2_with fail
      refine (HC2.out _).mono ?_
      rintro e w1 ⟨rfl, b1⟩
      obtain rfl := b1
      go_wp2_with fail
      go_ret
      exact ⟨by rw [hV.out]; rfl, HB.out⟩
    | true =>
      rw [h1] at HC1
      rw [h2] at HC2
      obtain ⟨n, rfl, hn⟩ := rgY_yes h1
      obtain ⟨d, rfl, hd⟩ := rgY_yes h2
      have HT1 := Lib.hid (fun wx => toY_any n wx (by omega))
      have HT2 := Lib.hid (fun wx => toY_any d wx (by omega))
      have hV := Lib.hid (show riB (zS n) (zS d) = (decide (0 < d) && decide (Nat.gcd n.natAbs d.natAbs = 1)) by unfold riB; rw [h1, h2, zV_zS, zV_zS]; rfl)
      obtain ⟨VV, hVV⟩ : ∃ V, V = riB (zS n) (zS d) := ⟨_, rfl⟩
      rw [← hVV] at hV ⊢
      have hgd := one_dec (Nat.gcd n.natAbs d.natAbs)
      obtain ⟨gv, hgv⟩ : ∃ v, v = decide (Nat.gcd n.natAbs d.natAbs = 1) := ⟨_, rfl⟩
      rw [← hgv] at hV hgd
      obtain ⟨gz, hgz⟩ : ∃ g : Int, g = ((Nat.gcd n.natAbs d.natAbs : Nat) : Int) := ⟨_, rfl⟩
      have HGZ := Lib.hid hgz
      have hgn := Lib.hid (show (str gz.natAbs).size ≤ 401 by
        rw [hgz, Int.natAbs_natCast]
        by_cases hz : d = 0
        · subst hz; rw [show (0 : Int).natAbs = 0 from rfl, Nat.gcd_zero_right]; omega
        · exact Nat.le_trans (zsz_le hd (Nat.gcd_le_right n.natAbs (by omega))) (by decide))
      rw [← hgz] at hgd
      obtain ⟨gs, hgs⟩ : ∃ g, g = zS gz := ⟨_, rfl⟩
      have HGS := Lib.hid hgs
      rw [← hgs] at hgd
      have hsw := sgnI_ways d
      obtain ⟨k, hk⟩ : ∃ k, k = sgnI d := ⟨_, rfl⟩
      have HK := Lib.hid hk
      have HND := Lib.hid (And.intro hn hd)
      obtain ⟨s, hs1⟩ : ∃ s, s = zS n := ⟨_, rfl⟩
      obtain ⟨t, ht1⟩ : ∃ s, s = zS d := ⟨_, rfl⟩
      rw [← hs1, ← ht1] at HZ HB ⊢
      rw [← hs1] at HC1 HT1
      rw [← ht1] at HC2 HT2
      have HS := Lib.hid hs
      rw [← hk] at hsw
      have HSW := Lib.hid hsw
      clear h1 h2 hVV h1s h1t hn hd hs1 ht1 hs hgs hgz hgv hk hsw
      go_enter Tryz.func15, Tryz.ntmps15
      go_upto_region 1 with fail
      obtain ⟨W0, hW0⟩ : ∃ W0, W0 = w.alloc (ratO s t) := ⟨_, rfl⟩
      rw [← hW0] at HZ HB ⊢
      clear hW0
      have c1 := HZ.out.num
      have c0 := HZ.out.den
      go_wp2_with fail
      refine (HC1.out _).mono ?_
      rintro e w1 ⟨rfl, b1⟩
      obtain rfl := b1
      go_wp2_with fail
      refine (HC2.out _).mono ?_
      rintro e w1 ⟨rfl, b1⟩
      obtain rfl := b1
      have c2 := HZ.out.den
      clear c1
      go_wp2_with fail
      refine (HT2.out _).mono ?_
      rintro e w3 ⟨⟨V, o, c, M, rfl, hwf⟩, b3⟩
      have B3 := Lib.hid (HB.out.trans (b3.mono HB.out.size))
      have Z3 := Lib.hid (HZ.out.below b3)
      have HWD := Lib.hid hwf.wh
      clear b3 hwf c2 HB HZ
      (try unfold whV)
      obtain ⟨m, hm⟩ : ∃ m, m = M.length := ⟨_, rfl⟩
      have HM := Lib.hid hm
      rw [← hm]
      clear hm
      go_upto_region 4 with fail
      have X4 := Lib.hid (show Bk w (w3.alloc (.cells #[.bool V, .slice o m c] 43)) s t w3.heap.size V (.slice o m c) from ⟨B3.out.alloc B3.out.size _, Z3.out.below ((Below.refl _ _).alloc (Nat.le_refl _) _), BxO.new w3 w.heap.size B3.out.size V (.slice o m c)⟩)
      have HW4 := Lib.hid (HWD.out.below ((Below.refl _ w3).alloc (Nat.le_refl _) (.cells #[.bool V, .slice o m c] 43)))
      obtain ⟨gp, hgp⟩ : ∃ g, g = w3.heap.size := ⟨_, rfl⟩
      obtain ⟨W4, hW4⟩ : ∃ W4, W4 = w3.alloc (.cells #[.bool V, .slice o m c] 43) := ⟨_, rfl⟩
      rw [← hgp, ← hW4] at X4
      rw [← hW4] at HW4
      rw [← hW4, ← hgp]
      clear hgp hW4 B3 Z3 HWD
      have HSG := Lib.hid (fun (wx : World) (hx : Below W4.heap.size W4 wx) => signWY_any V o c M d wx (HW4.out.below hx))
      unfold whV at HSG
      rw [← HM.out, ← HK.out] at HSG
      have HLD := Lib.hid (show M.length ≤ 20000 from HW4.out.pcs.len_le (n := 20000) (by have := HND.out.2; omega))
      have Y0 := Lib.hid (Below.drew (Below.refl W4.heap.size W4))
      have X0 := Lib.hid (X4.out.to Y0.out)
      by_cases hp : 0 < d
      · have hk1 : k = 1 := by have := HSW.out; omega
        rw [decide_eq_true hp, Bool.true_and] at hV
        clear hp
        subst hk1
        go_region_held3 (fun W => W.cell? ⟨w.heap.size, 0, none⟩ = some (.string s) ∧ W.cell? ⟨gp, 0, none⟩ = some (.bool V) ∧ W.cell? ⟨gp, 1, none⟩ = some (.slice o m c)) (first | exact ⟨X5.out.box.num, X5.out.who.neg, X5.out.who.dig⟩ | exact ⟨X3.out.box.num, X3.out.who.neg, X3.out.who.dig⟩ | exact ⟨X2.out.box.num, X2.out.who.neg, X2.out.who.dig⟩ | exact ⟨X1.out.box.num, X1.out.who.neg, X1.out.who.dig⟩ | exact ⟨X0.out.box.num, X0.out.who.neg, X0.out.who.dig⟩) (first | (go_at_call 52; have g0 := Y3.out; have hq := fromY_any false o3 c3 L3 gz w7 (HS.out.below X3.out.below) HW3.out (HW3.out.pcs.len_le (n := 100000) (by have := hgn.out; omega)); unfold whV at hq; rw [← HM3.out, ← HGS.out] at hq; refine hq.mono ?_; rintro e w8 ⟨rfl, h8⟩; have X5 := Lib.hid (X3.out.to h8); clear h8 g0 hq) | (go_at_call 63; have g0 := Y2.out; have hq := gcdWY_any b2 o2 c2 L2 n V o c M d w6 HW2.out (HW4.out.below g0) (HW2.out.pcs.len_le (n := 20000) (by have := HND.out.1; omega)) HLD.out; unfold whV at hq; rw [← HM2.out, ← HM.out, ← HGZ.out] at hq; refine hq.mono ?_; rintro e w7 ⟨⟨o3, c3, L3, rfl, hw3, -⟩, h7⟩; have Y3 := Lib.hid (g0.trans (h7.mono g0.size)); have X3 := Lib.hid (X2.out.to h7); have HW3 := Lib.hid hw3; obtain ⟨m3, hm3⟩ : ∃ m, m = L3.length := ⟨_, rfl⟩; have HM3 := Lib.hid hm3; rw [← hm3]; clear h7 g0 hw3 hm3 hq) | (go_at_call 25; have g0 := Y1.out; refine (HT1.out _).mono ?_; rintro e w6 ⟨⟨b2, o2, c2, L2, rfl, hwf⟩, h6⟩; have Y2 := Lib.hid (g0.trans (h6.mono g0.size)); have X2 := Lib.hid (X1.out.to h6); have HW2 := Lib.hid hwf.wh; (try unfold whV); obtain ⟨m2, hm2⟩ : ∃ m, m = L2.length := ⟨_, rfl⟩; have HM2 := Lib.hid hm2; rw [← hm2]; clear h6 g0 hwf hm2) | (go_at_call 62; refine (HSG.out _ ?hxx).mono ?_; (case hxx => exact Y0.out); rintro e w5 ⟨rfl, h5⟩; have Y1 := Lib.hid (Y0.out.trans (h5.mono Y0.out.size)); have X1 := Lib.hid (X0.out.to h5); clear h5))
        all_goals (
          go_wp2_with fail
          go_ret
          exact ⟨by rw [hV.out]; first | rfl | (rw [hgd]; rfl), X5.out.below⟩)
      · rw [decide_eq_false hp, Bool.false_and] at hV
        have hk1 : k = 0 ∨ k = -1 := by have := HSW.out; omega
        clear hp
        rcases hk1 with rfl | rfl
        all_goals (
          have p0 := X4.out.box.num
          have p1 := X4.out.who.neg
          have p2 := X4.out.who.dig
          first | go_region_with (go_at_call 62; refine (HSG.out _ ?hxx).mono ?_; (case hxx => exact Y0.out); rintro e w5 ⟨rfl, h5⟩; have X1 := Lib.hid (X0.out.to h5); have q0 := X1.out.box.num; have q1 := X1.out.who.neg; have q2 := X1.out.who.dig; clear h5) | fail "no"
          all_goals (
            go_wp2_with fail
            go_ret
            exact ⟨by rw [hV.out]; rfl, X1.out.below⟩))
end Go.Proofs.YtgkfdgdlmpggpaaGreatDoor

namespace Go.Proofs.YtgkfdgdlmpggpaaGreatDoor
open Go.RowKit

set_option maxHeartbeats 800000 in
theorem smallF_yes (n d : Int) (w : World) (hs : Std w) (hf : fewOk n d) (hn : (str n.natAbs).size ≤ 1000000) (hd : (str d.natAbs).size ≤ 1000000) :
    Calls Tryz.prog 17 #[ratV (zS n) (zS d)] w fun e w' => e = .returned (.tuple #[.int .i64 (n), .int .i64 (d), .bool true]) ∧ Below w.heap.size w w' := by
  have HF := Lib.hid (fun wx hw => fewF_yes n d wx hw hf hn hd)
  obtain ⟨s, hs2⟩ : ∃ s, s = zS n := ⟨_, rfl⟩
  obtain ⟨t, ht⟩ : ∃ s, s = zS d := ⟨_, rfl⟩
  rw [← hs2, ← ht] at HF ⊢
  have HX := BxR.new w s t
  have x0 := HX.num
  have x1 := HX.den
  have HB := Lib.hid ((Below.refl w.heap.size w).alloc (Nat.le_refl _) (ratO s t))
  have HS := Lib.hid (hs.below HB.out)
  clear hs2 ht HX hn hd hs hf
  go_enter Tryz.func17, Tryz.ntmps17
  go_wp2_with fail
  refine (HF.out _ HS.out).mono ?_
  rintro e w1 ⟨rfl, h1⟩
  have B1 := Lib.hid (HB.out.trans (h1.mono HB.out.size))
  have A := BxT.new w1 w.heap.size B1.out.size 78 (.int .i64 (n)) (.int .i64 (d))
  have cc0 := A.c0
  have cc1 := A.c1
  have D1 := Lib.hid (B1.out.alloc B1.out.size (.cells #[.int .i64 (n), .int .i64 (d)] 78))
  clear A h1
  go_wp2_with fail
  go_quiet (fail)
  go_wp2_with fail
  go_ret3
  exact ⟨rfl, below_drewN D1.out _⟩
set_option maxHeartbeats 800000 in
theorem smallF_no (n d : Int) (w : World) (hs : Std w) (hf : ¬ fewOk n d) (hn : (str n.natAbs).size ≤ 1000000) (hd : (str d.natAbs).size ≤ 1000000) :
    Calls Tryz.prog 17 #[ratV (zS n) (zS d)] w fun e w' => e = .returned (.tuple #[.int .i64 (0), .int .i64 (0), .bool false]) ∧ Below w.heap.size w w' := by
  have HF := Lib.hid (fun wx hw => fewF_no n d wx hw hf hn hd)
  obtain ⟨s, hs2⟩ : ∃ s, s = zS n := ⟨_, rfl⟩
  obtain ⟨t, ht⟩ : ∃ s, s = zS d := ⟨_, rfl⟩
  rw [← hs2, ← ht] at HF ⊢
  have HX := BxR.new w s t
  have x0 := HX.num
  have x1 := HX.den
  have HB := Lib.hid ((Below.refl w.heap.size w).alloc (Nat.le_refl _) (ratO s t))
  have HS := Lib.hid (hs.below HB.out)
  clear hs2 ht HX hn hd hs hf
  go_enter Tryz.func17, Tryz.ntmps17
  go_wp2_with fail
  refine (HF.out _ HS.out).mono ?_
  rintro e w1 ⟨rfl, h1⟩
  have B1 := Lib.hid (HB.out.trans (h1.mono HB.out.size))
  have A := BxT.new w1 w.heap.size B1.out.size 78 (.int .i64 (0)) (.int .i64 (0))
  have cc0 := A.c0
  have cc1 := A.c1
  have D1 := Lib.hid (B1.out.alloc B1.out.size (.cells #[.int .i64 (0), .int .i64 (0)] 78))
  clear A h1
  go_wp2_with fail
  go_quiet (fail)
  go_wp2_with fail
  go_ret3
  exact ⟨rfl, below_drewN D1.out _⟩
end Go.Proofs.YtgkfdgdlmpggpaaGreatDoor

namespace Go.Proofs.YtgkfdgdlmpggpaaGreatDoor
open Go.RowKit

def longB (s t : ByteArray) (k : Nat) : Bool := decide (k < s.size) || decide (k < t.size)
theorem longF_any (s t : ByteArray) (k : Nat) (w : World) :
    Calls Tryz.prog 14 #[ratV s t, .int .i64 k] w fun e w' => e = .returned (.bool (longB s t k)) ∧ Below w.heap.size w w' := by
  have HZ := Lib.hid (BxR.new w s t)
  have HB := Lib.hid ((Below.refl w.heap.size w).alloc (Nat.le_refl _) (ratO s t))
  by_cases h1 : k < s.size
  · have hV := Lib.hid (show longB s t k = true by unfold longB; rw [decide_eq_true h1]; rfl)
    have hp : ((k : Nat) : Int) < s.size := by omega
    obtain ⟨V, hVV⟩ : ∃ V, V = longB s t k := ⟨_, rfl⟩
    rw [← hVV] at hV ⊢
    clear h1 hVV
    go_enter Tryz.func14, Tryz.ntmps14
    go_upto_region 1 with fail
    obtain ⟨W0, hW0⟩ : ∃ W0, W0 = w.alloc (ratO s t) := ⟨_, rfl⟩
    rw [← hW0] at HZ HB ⊢
    clear hW0
    have c1 := HZ.out.num
    have c2 := HZ.out.den
    go_wp2_with fail
    go_ret
    exact ⟨by rw [hV.out]; rfl, HB.out⟩
  · have hV := Lib.hid (show longB s t k = decide (k < t.size) by unfold longB; rw [decide_eq_false h1, Bool.false_or])
    have hp : ¬ ((k : Nat) : Int) < s.size := by omega
    have hp2 : decide (((k : Nat) : Int) < s.size) = false := decide_eq_false hp
    obtain ⟨V, hVV⟩ : ∃ V, V = longB s t k := ⟨_, rfl⟩
    rw [← hVV] at hV ⊢
    clear h1 hVV
    go_enter Tryz.func14, Tryz.ntmps14
    go_upto_region 1 with fail
    obtain ⟨W0, hW0⟩ : ∃ W0, W0 = w.alloc (ratO s t) := ⟨_, rfl⟩
    rw [← hW0] at HZ HB ⊢
    clear hW0
    have c1 := HZ.out.num
    have c2 := HZ.out.den
    go_wp2_with fail
    go_ret
    exact ⟨by rw [hV.out]; rfl, HB.out⟩
/-- the box of a fraction that came in -/
structure Bi (w W : World) (s t : ByteArray) : Prop where
  below : Below w.heap.size w W
  box : BxR W w.heap.size s t
theorem Bi.to {w W W' : World} {s t : ByteArray} (h : Bi w W s t) (hb : Below W.heap.size W W') : Bi w W' s t := ⟨h.below.trans (hb.mono h.below.size), h.box.below hb⟩
theorem Bi.new (w : World) (s t : ByteArray) : Bi w (w.alloc (ratO s t)) s t := ⟨(Below.refl w.heap.size w).alloc (Nat.le_refl _) _, BxR.new w s t⟩
theorem size18 {n : Int} : (str n.natAbs).size ≤ 18 ↔ (-1000000000000000000 < n ∧ n < 1000000000000000000) := by
  constructor
  · intro h
    have h0 := Lib.lt_pow_nDigits n.natAbs
    rw [str_size] at h
    have h1 := Nat.lt_of_lt_of_le h0 (Nat.pow_le_pow_right (n := 10) (by decide) h)
    have : (10 : Nat) ^ 18 = 1000000000000000000 := by decide
    rw [this] at h1
    omega
  · intro h
    exact str_big (n := 18) (by have : (10 : Nat) ^ 18 = 1000000000000000000 := by decide
                                rw [this]; omega) (by decide)
end Go.Proofs.YtgkfdgdlmpggpaaGreatDoor
