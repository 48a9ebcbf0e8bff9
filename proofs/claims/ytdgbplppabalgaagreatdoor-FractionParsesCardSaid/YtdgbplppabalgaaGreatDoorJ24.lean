/-
  Texts of one seat, joined: YGcd YRgt YSm YLng YFits.
-/
import Derived.Test.YtdgbplppabalgaaGreatDoorJ23
import Derived.Deep.LoopGhost
import Derived.Test.YtdgbplppabalgaaGreatDoorJ20
import Derived.Test.YtdgbplppabalgaaGreatDoorJ16
import Derived.Test.YtdgbplppabalgaaGreatDoorJ21
import Derived.Deep.RegionHeld3
import Derived.Deep.RegionWith
import Derived.Test.YtdgbplppabalgaaGreatDoorJ14
import Derived.Deep.Cut
import Derived.BigQuiet
import Derived.LoopN
namespace Go.Proofs.YtdgbplppabalgaaGreatDoor
open Go.RowKit

def Orig (a b : Option Addr) (B : Nat) (o : Option Addr) : Prop := o = a ∨ o = b ∨ NewO B o
theorem Orig.ne {a b : Option Addr} {B : Nat} {o : Option Addr} (h : Orig a b B o) {G : Nat} (ha : ∀ g, a = some ⟨g, 0, none⟩ → g ≠ G) (hb : ∀ g, b = some ⟨g, 0, none⟩ → g ≠ G) (hG : G < B) : ∀ g, o = some ⟨g, 0, none⟩ → g ≠ G := by
  rcases h with h | h | h
  · rw [h]; exact ha
  · rw [h]; exact hb
  · exact h.ne hG
theorem Pd.out {w : World} {o : Option Addr} {c : Nat} {L : List Nat} (h : Pd w o c L) {G : Nat} (hG : w.heap.size ≤ G) : ∀ g, o = some ⟨g, 0, none⟩ → g ≠ G := fun g e => by have := h.lt g e; omega
set_option maxHeartbeats 3200000 in
set_option maxRecDepth 100000 in
theorem gcdWY_any (b1 : Bool) (a : Option Addr) (ca : Nat) (p : List Nat) (x : Int) (b2 : Bool) (b : Option Addr) (cb : Nat) (q : List Nat) (y : Int) (w : World) (ha : Wh w b1 a ca p x) (hb : Wh w b2 b cb q y) (hpl : p.length ≤ 20000) (hql : q.length ≤ 20000) :
    Calls Tryz.prog 63 #[whV b1 a ca p, whV b2 b cb q] w fun e w' => (∃ (o : Option Addr) (c : Nat) (r : List Nat), e = .returned (whV false o c r) ∧ Wh w' false o c r ((Nat.gcd x.natAbs y.natAbs : Nat) : Int) ∧ Orig a b w.heap.size o) ∧ Below w.heap.size w w' := by
  have HX0 := Bw.new w b1 (.slice a p.length ca) b2 (.slice b q.length cb)
  have HA := Lib.hid ha
  have HB := Lib.hid hb
  have hlca := ha.pd.lc
  have hlma := ha.pd.lim
  have hlcb := hb.pd.lc
  have hlmb := hb.pd.lim
  obtain ⟨G, hG⟩ : ∃ G, G = Nat.gcd x.natAbs y.natAbs := ⟨_, rfl⟩
  have HG := Lib.hid hG.symm
  rw [← hG]
  unfold whV
  obtain ⟨m, hm⟩ : ∃ m, m = p.length := ⟨_, rfl⟩
  obtain ⟨n, hn⟩ : ∃ m, m = q.length := ⟨_, rfl⟩
  have HM := Lib.hid hm
  have HN := Lib.hid hn
  rw [← hm, ← hn] at HX0 ⊢
  clear hm hn ha hb hG
  go_enter Tryz.func63, Tryz.ntmps63
  go_upto_region 1 with fail
  obtain ⟨W0, hW0⟩ : ∃ W0, W0 = ((w.alloc (.cells #[.bool b1, .slice a m ca] 43)).alloc (.cells #[.bool b2, .slice b n cb] 43)).alloc (.cells #[.bool false, .slice none 0 0] 43) := ⟨_, rfl⟩
  rw [← hW0] at HX0 ⊢
  clear hW0
  have k3 := HX0.one.dig
  have k4 := HX0.two.dig
  have HLT := Lib.hid HX0.lt
  have HBX := Lib.hid HX0
  clear HX0
  go_wp2_with fail
  go_quiet (fail)
  go_wp2_with fail
  go_loopg [5, 6, 7, 8] y.natAbs (fun g xv yv _ _ wr => ∃ (o1 : Option Addr) (c1 : Nat) (P : List Nat) (o2 : Option Addr) (c2 : Nat) (Q : List Nat) (xx yy : Nat), xv = .slice o1 P.length c1 ∧ yv = .slice o2 Q.length c2 ∧ P.length ≤ 20000 ∧ Q.length ≤ 20000 ∧ yy ≤ g ∧ Hid (Pd wr o1 c1 P ∧ Pcs P xx ∧ Pd wr o2 c2 Q ∧ Pcs Q yy ∧ Nat.gcd xx yy = G) ∧ Hid (Orig a b w.heap.size o1 ∧ Orig a b w.heap.size o2 ∧ (∀ g, o1 = some ⟨g, 0, none⟩ → g ≠ w.heap.size + 1 + 1) ∧ (∀ g, o2 = some ⟨g, 0, none⟩ → g ≠ w.heap.size + 1 + 1)) ∧ Hid (Bw w wr b1 (.slice a m ca) b2 (.slice b n cb)))
  case atStart =>
    have hbz := HBX.out.drewN nq
    exact ⟨a, ca, p, b, cb, q, x.natAbs, y.natAbs, by rw [HM.out], by rw [HN.out], hpl, hql, Nat.le_refl _, ⟨HA.out.pd.below hbz.below, HA.out.pcs, HB.out.pd.below hbz.below, HB.out.pcs, HG.out⟩, ⟨.inl rfl, .inr (.inl rfl), HA.out.pd.out (by omega), HB.out.pd.out (by omega)⟩, hbz⟩
  case round =>
    obtain ⟨o1, c1, P, o2, c2, Q, xx, yy, rfl, rfl, hP, hQ, hyg, HI, HO, HW⟩ := hrel
    have hl1 := HI.out.1.lc
    have hl2 := HI.out.1.lim
    have hl3 := HI.out.2.2.1.lc
    have hl4 := HI.out.2.2.1.lim
    by_cases hq0 : Q.length = 0
    · have hgt : ¬ (0 : Int) < (Q.length : Int) := by omega
      have hy0 : yy = 0 := by
        have := HI.out.2.2.2.1.val
        rw [List.length_eq_zero_iff.1 hq0] at this; exact this.symm
      have hxg : xx = G := by
        have := HI.out.2.2.2.2
        rw [hy0, Nat.gcd_zero_right] at this; exact this
      have hf := HI.out.2.1
      rw [hxg] at hf
      have HWH := Lib.hid (show Wh wr false o1 c1 P ((G : Nat) : Int) from Wh.ofNat HI.out.1 hf)
      have HO1 := Lib.hid HO.out.1
      have HNE := Lib.hid HO.out.2.2.1
      have f0 := HW.out.res.free 0
      have f1 := HW.out.res.free 1
      have e0 := HW.out.res.neg
      have e1 := HW.out.res.dig
      have Y1 := HW.out.res.set0 false
      have y1 := Y1.free 1
      have z1 := Y1.dig
      have Y2 := Y1.set1 (.slice o1 P.length c1)
      have u0 := Y2.neg
      have u1 := Y2.dig
      have HBE := Lib.hid ((HW.out.below.setCell (p := ⟨w.heap.size + 1 + 1, 0, none⟩) (by show w.heap.size ≤ w.heap.size + 1 + 1; omega) (.bool false)).setCell (p := ⟨w.heap.size + 1 + 1, 1, none⟩) (by show w.heap.size ≤ w.heap.size + 1 + 1; omega) (.slice o1 P.length c1))
      have HWE := Lib.hid ((HWH.out.stored (w.heap.size + 1 + 1) 0 (.bool false) HNE.out).stored (w.heap.size + 1 + 1) 1 (.slice o1 P.length c1) HNE.out)
      clear Y1 Y2 HI HO HW hf hxg hy0 hq0 HWH HNE
      go_wp2_with fail
      (try simp only [Exit.inBlock, Exit.then])
      refine bodyPost_ret (v := .agg #[.bool false, .slice o1 P.length c1]) ?_ rfl ⟨⟨o1, c1, P, rfl, HWE.out, HO1.out⟩, HBE.out⟩
      rw [results_cell_one rfl]
      go_simp
    · have hgt : (0 : Int) < (Q.length : Int) := by omega
      have hy0 : 0 < yy := by
        apply Nat.pos_of_ne_zero; intro h
        have h5 := Pcs.len_mono Pcs.nil HI.out.2.2.2.1 (by rw [h]; exact Nat.le_refl _)
        have : Q.length ≤ 0 := h5
        omega
      obtain ⟨g, rfl⟩ : ∃ g, gk = g + 1 := ⟨gk - 1, by omega⟩
      have HD := Lib.hid (divideY_any o1 c1 P o2 c2 Q xx yy wr HI.out.1 HI.out.2.2.1 HI.out.2.1 HI.out.2.2.2.1 hy0 (by omega) (by omega))
      have HQP := Lib.hid HI.out.2.2.2.1
      have HQD := Lib.hid HI.out.2.2.1
      have HOO := Lib.hid HO.out
      have HGG := Lib.hid (show Nat.gcd yy (xx % yy) = G by rw [Nat.gcd_comm, ← Nat.gcd_rec, Nat.gcd_comm]; exact HI.out.2.2.2.2)
      have hml : xx % yy < yy := Nat.mod_lt _ hy0
      obtain ⟨qn, hqn⟩ : ∃ qn, qn = Q.length := ⟨_, rfl⟩
      obtain ⟨pn, hpn⟩ : ∃ qn, qn = P.length := ⟨_, rfl⟩
      have HQN := Lib.hid hqn
      rw [← hqn] at hgt hQ hl3 hq0 ⊢
      rw [← hpn] at hP hl1 ⊢
      rw [← hqn, ← hpn] at HD
      clear hqn hpn HI HO
      go_wp2_with fail
      refine HD.out.mono ?_
      rintro e w1 ⟨⟨o3, c3, r3, o4, c4, r4, rfl, -, -, -, hr4, hr4p, hr4n⟩, hb1⟩
      have HW1 := Lib.hid (HW.out.to hb1)
      have HQ1 := Lib.hid (HQD.out.below hb1)
      have HR4 := Lib.hid hr4
      have HP4 := Lib.hid hr4p
      have HN4 := Lib.hid hr4n
      have h4l : r4.length ≤ 20000 := Nat.le_trans (Pcs.len_mono HQP.out hr4p (Nat.le_of_lt hml)) (by rw [← HQN.out]; exact hQ)
      have HWL := Lib.hid HW.out.lt
      clear hb1 hr4 hr4p hr4n HD HW
      go_wp2_with fail
      go_roundg g
      case measure => omega
      case rel => exact ⟨o2, c2, Q, o4, c4, r4, yy, xx % yy, by rw [HQN.out], rfl, by rw [← HQN.out]; exact hQ, h4l, by omega, ⟨HQ1.out, HQP.out, HR4.out, HP4.out, HGG.out⟩, ⟨HOO.out.2.1, .inr (.inr (HN4.out.mono (by have := HWL.out; omega))), HOO.out.2.2.2, HN4.out.ne (by have := HWL.out; omega)⟩, HW1.out⟩
end Go.Proofs.YtdgbplppabalgaaGreatDoor

namespace Go.Proofs.YtdgbplppabalgaaGreatDoor
open Go.RowKit

/-- the box of a fraction and the box of a whole of the reference -/
structure Bk (w W : World) (s t : ByteArray) (g : Nat) (V : Bool) (v : Value) : Prop where
  below : Below w.heap.size w W
  box : BxR W w.heap.size s t
  who : BxO W w.heap.size g V v
theorem Bk.to {w W W' : World} {s t : ByteArray} {g : Nat} {V : Bool} {v : Value} (h : Bk w W s t g V v) (hb : Below W.heap.size W W') : Bk w W' s t g V v := ⟨h.below.trans (hb.mono h.below.size), h.box.below hb, h.who.kept hb⟩
theorem one_dec (g : Nat) : ((zS ((g : Nat) : Int)).toList == [49]) = decide (g = 1) := by
  rw [zS_of_nat]
  by_cases h : g = 1
  · rw [decide_eq_true h, h, strOne]; exact ba_yes (l := [49]) rfl
  · rw [decide_eq_false h]; exact ba_ne (l := [49]) (str_one_iff h)
set_option maxHeartbeats 3200000 in
set_option maxRecDepth 100000 in
theorem rightY_any (s t : ByteArray) (w : World) (hs : Std w) (h1s : s.size ≤ 1000001) (h1t : t.size ≤ 1000001) :
    Calls Tryz.prog 15 #[ratV s t] w fun e w' => e = .returned (.bool (riB s t)) ∧ Below w.heap.size w w' := by
  have HZ := Lib.hid (BxR.new w s t)
  have HB := Lib.hid ((Below.refl w.heap.size w).alloc (Nat.le_refl _) (ratO s t))
  have HC1 := Lib.hid (fun wx => canY_any s wx h1s)
  have HC2 := Lib.hid (fun wx => canY_any t wx h1t)
  cases h1 : rgY s with
  | false =>
    rw [h1] at HC1
    have hV := Lib.hid (show riB s t = false by unfold riB; rw [h1]; rfl)
    obtain ⟨V, hVV⟩ : ∃ V, V = riB s t := ⟨_, rfl⟩
    rw [← hVV] at hV ⊢
    clear h1 hVV HC2
    go_enter Tryz.func15, Tryz.ntmps15
    go_upto_region 1 with fail
    obtain ⟨W0, hW0⟩ : ∃ W0, W0 = w.alloc (ratO s t) := ⟨_, rfl⟩
    rw [← hW0] at HZ HB ⊢
    clear hW0
    have c1 := HZ.out.num
    go_wp2_with fail
    refine (HC1.out _).mono ?_
    rintro e w1 ⟨rfl, b1⟩
    obtain rfl := b1
    go_wp2_with fail
    go_ret
    exact ⟨by rw [hV.out]; rfl, HB.out⟩
  | true =>
    cases h2 : rgY t with
    | false =>
      rw [h1] at HC1
      rw [h2] at HC2
      have hV := Lib.hid (show riB s t = false by unfold riB; rw [h1, h2]; rfl)
      obtain ⟨V, hVV⟩ : ∃ V, V = riB s t := ⟨_, rfl⟩
      rw [← hVV] at hV ⊢
      clear h1 h2 hVV
      go_enter Tryz.func15, Tryz.ntmps15
      go_upto_region 1 with fail
      obtain ⟨W0, hW0⟩ : ∃ W0, W0 = w.alloc (ratO s t) := ⟨_, rfl⟩
      rw [← hW0] at HZ HB ⊢
      clear hW0
      have c1 := HZ.out.num
      have c0 := HZ.out.den
      go_wp2_with fail
      refine (HC1.out _).mono ?_
      rintro e w1 ⟨rfl, b1⟩
      obtain rfl := b1
      go_wp2_with fail
      refine (HC2.out _).mono ?_
      rintro e w1 ⟨rfl, b1⟩
      obtain rfl := b1
      go_wp2_with fail
      go_ret
      exact ⟨by rw [hV.out]; rfl, HB.out⟩
    | true =>
      rw [h1] at HC1
      rw [h2] at HC2
      obtain ⟨n, rfl, hn⟩ := rgY_yes h1
      obtain ⟨d, rfl, hd⟩ := rgY_yes h2
      have HT1 := Lib.hid (fun wx => toY_any n wx (by omega))
      have HT2 := Lib.hid (fun wx => toY_any d wx (by omega))
      have hV := Lib.hid (show riB (zS n) (zS d) = (decide (0 < d) && decide (Nat.gcd n.natAbs d.natAbs = 1)) by unfold riB; rw [h1, h2, zV_zS, zV_zS]; rfl)
      obtain ⟨VV, hVV⟩ : ∃ V, V = riB (zS n) (zS d) := ⟨_, rfl⟩
      rw [← hVV] at hV ⊢
      have hgd := one_dec (Nat.gcd n.natAbs d.natAbs)
      obtain ⟨gv, hgv⟩ : ∃ v, v = decide (Nat.gcd n.natAbs d.natAbs = 1) := ⟨_, rfl⟩
      rw [← hgv] at hV hgd
      obtain ⟨gz, hgz⟩ : ∃ g : Int, g = ((Nat.gcd n.natAbs d.natAbs : Nat) : Int) := ⟨_, rfl⟩
      have HGZ := Lib.hid hgz
      have hgn := Lib.hid (show (str gz.natAbs).size ≤ 401 by
        rw [hgz, Int.natAbs_natCast]
        by_cases hz : d = 0
        · subst hz; rw [show (0 : Int).natAbs = 0 from rfl, Nat.gcd_zero_right]; omega
        · exact Nat.le_trans (zsz_le hd (Nat.gcd_le_right n.natAbs (by omega))) (by decide))
      rw [← hgz] at hgd
      obtain ⟨gs, hgs⟩ : ∃ g, g = zS gz := ⟨_, rfl⟩
      have HGS := Lib.hid hgs
      rw [← hgs] at hgd
      have hsw := sgnI_ways d
      obtain ⟨k, hk⟩ : ∃ k, k = sgnI d := ⟨_, rfl⟩
      have HK := Lib.hid hk
      have HND := Lib.hid (And.intro hn hd)
      obtain ⟨s, hs1⟩ : ∃ s, s = zS n := ⟨_, rfl⟩
      obtain ⟨t, ht1⟩ : ∃ s, s = zS d := ⟨_, rfl⟩
      rw [← hs1, ← ht1] at HZ HB ⊢
      rw [← hs1] at HC1 HT1
      rw [← ht1] at HC2 HT2
      have HS := Lib.hid hs
      rw [← hk] at hsw
      have HSW := Lib.hid hsw
      clear h1 h2 hVV h1s h1t hn hd hs1 ht1 hs hgs hgz hgv hk hsw
      go_enter Tryz.func15, Tryz.ntmps15
      go_upto_region 1 with fail
      obtain ⟨W0, hW0⟩ : ∃ W0, W0 = w.alloc (ratO s t) := ⟨_, rfl⟩
      rw [← hW0] at HZ HB ⊢
      clear hW0
      have c1 := HZ.out.num
      have c0 := HZ.out.den
      go_wp2_with fail
      refine (HC1.out _).mono ?_
      rintro e w1 ⟨rfl, b1⟩
      obtain rfl := b1
      go_wp2_with fail
      refine (HC2.out _).mono ?_
      rintro e w1 ⟨rfl, b1⟩
      obtain rfl := b1
      have c2 := HZ.out.den
      clear c1
      go_wp2_with fail
      refine (HT2.out _).mono ?_
      rintro e w3 ⟨⟨V, o, c, M, rfl, hwf⟩, b3⟩
      have B3 := Lib.hid (HB.out.trans (b3.mono HB.out.size))
      have Z3 := Lib.hid (HZ.out.below b3)
      have HWD := Lib.hid hwf.wh
      clear b3 hwf c2 HB HZ
      (try unfold whV)
      obtain ⟨m, hm⟩ : ∃ m, m = M.length := ⟨_, rfl⟩
      have HM := Lib.hid hm
      rw [← hm]
      clear hm
      go_upto_region 4 with fail
      have X4 := Lib.hid (show Bk w (w3.alloc (.cells #[.bool V, .slice o m c] 43)) s t w3.heap.size V (.slice o m c) from ⟨B3.out.alloc B3.out.size _, Z3.out.below ((Below.refl _ _).alloc (Nat.le_refl _) _), BxO.new w3 w.heap.size B3.out.size V (.slice o m c)⟩)
      have HW4 := Lib.hid (HWD.out.below ((Below.refl _ w3).alloc (Nat.le_refl _) (.cells #[.bool V, .slice o m c] 43)))
      obtain ⟨gp, hgp⟩ : ∃ g, g = w3.heap.size := ⟨_, rfl⟩
      obtain ⟨W4, hW4⟩ : ∃ W4, W4 = w3.alloc (.cells #[.bool V, .slice o m c] 43) := ⟨_, rfl⟩
      rw [← hgp, ← hW4] at X4
      rw [← hW4] at HW4
      rw [← hW4, ← hgp]
      clear hgp hW4 B3 Z3 HWD
      have HSG := Lib.hid (fun (wx : World) (hx : Below W4.heap.size W4 wx) => signWY_any V o c M d wx (HW4.out.below hx))
      unfold whV at HSG
      rw [← HM.out, ← HK.out] at HSG
      have HLD := Lib.hid (show M.length ≤ 20000 from HW4.out.pcs.len_le (n := 20000) (by have := HND.out.2; omega))
      have Y0 := Lib.hid (Below.drew (Below.refl W4.heap.size W4))
      have X0 := Lib.hid (X4.out.to Y0.out)
      by_cases hp : 0 < d
      · have hk1 : k = 1 := by have := HSW.out; omega
        rw [decide_eq_true hp, Bool.true_and] at hV
        clear hp
        subst hk1
        go_region_held3 (fun W => W.cell? ⟨w.heap.size, 0, none⟩ = some (.string s) ∧ W.cell? ⟨gp, 0, none⟩ = some (.bool V) ∧ W.cell? ⟨gp, 1, none⟩ = some (.slice o m c)) (first | exact ⟨X5.out.box.num, X5.out.who.neg, X5.out.who.dig⟩ | exact ⟨X3.out.box.num, X3.out.who.neg, X3.out.who.dig⟩ | exact ⟨X2.out.box.num, X2.out.who.neg, X2.out.who.dig⟩ | exact ⟨X1.out.box.num, X1.out.who.neg, X1.out.who.dig⟩ | exact ⟨X0.out.box.num, X0.out.who.neg, X0.out.who.dig⟩) (first | (go_at_call 52; have g0 := Y3.out; have hq := fromY_any false o3 c3 L3 gz w7 (HS.out.below X3.out.below) HW3.out (HW3.out.pcs.len_le (n := 100000) (by have := hgn.out; omega)); unfold whV at hq; rw [← HM3.out, ← HGS.out] at hq; refine hq.mono ?_; rintro e w8 ⟨rfl, h8⟩; have X5 := Lib.hid (X3.out.to h8); clear h8 g0 hq) | (go_at_call 63; have g0 := Y2.out; have hq := gcdWY_any b2 o2 c2 L2 n V o c M d w6 HW2.out (HW4.out.below g0) (HW2.out.pcs.len_le (n := 20000) (by have := HND.out.1; omega)) HLD.out; unfold whV at hq; rw [← HM2.out, ← HM.out, ← HGZ.out] at hq; refine hq.mono ?_; rintro e w7 ⟨⟨o3, c3, L3, rfl, hw3, -⟩, h7⟩; have Y3 := Lib.hid (g0.trans (h7.mono g0.size)); have X3 := Lib.hid (X2.out.to h7); have HW3 := Lib.hid hw3; obtain ⟨m3, hm3⟩ : ∃ m, m = L3.length := ⟨_, rfl⟩; have HM3 := Lib.hid hm3; rw [← hm3]; clear h7 g0 hw3 hm3 hq) | (go_at_call 25; have g0 := Y1.out; refine (HT1.out _).mono ?_; rintro e w6 ⟨⟨b2, o2, c2, L2, rfl, hwf⟩, h6⟩; have Y2 := Lib.hid (g0.trans (h6.mono g0.size)); have X2 := Lib.hid (X1.out.to h6); have HW2 := Lib.hid hwf.wh; (try unfold whV); obtain ⟨m2, hm2⟩ : ∃ m, m = L2.length := ⟨_, rfl⟩; have HM2 := Lib.hid hm2; rw [← hm2]; clear h6 g0 hwf hm2) | (go_at_call 62; refine (HSG.out _ ?hxx).mono ?_; (case hxx => exact Y0.out); rintro e w5 ⟨rfl, h5⟩; have Y1 := Lib.hid (Y0.out.trans (h5.mono Y0.out.size)); have X1 := Lib.hid (X0.out.to h5); clear h5))
        all_goals (
          go_wp2_with fail
          go_ret
          exact ⟨by rw [hV.out]; first | rfl | (rw [hgd]; rfl), X5.out.below⟩)
      · rw [decide_eq_false hp, Bool.false_and] at hV
        have hk1 : k = 0 ∨ k = -1 := by have := HSW.out; omega
        clear hp
        rcases hk1 with rfl | rfl
        all_goals (
          have p0 := X4.out.box.num
          have p1 := X4.out.who.neg
          have p2 := X4.out.who.dig
          first | go_region_with (go_at_call 62; refine (HSG.out _ ?hxx).mono ?_; (case hxx => exact Y0.out); rintro e w5 ⟨rfl, h5⟩; have X1 := Lib.hid (X0.out.to h5); have q0 := X1.out.box.num; have q1 := X1.out.who.neg; have q2 := X1.out.who.dig; clear h5) | fail "no"
          all_goals (
            go_wp2_with fail
            go_ret
            exact ⟨by rw [hV.out]; rfl, X1.out.below⟩))
end Go.Proofs.YtdgbplppabalgaaGreatDoor

namespace Go.Proofs.YtdgbplppabalgaaGreatDoor
open Go.RowKit

set_option maxHeartbeats 800000 in
theorem smallF_yes (n d : Int) (w : World) (hs : Std w) (hf : fewOk n d) (hn : (str n.natAbs).size ≤ 1000000) (hd : (str d.natAbs).size ≤ 1000000) :
    Calls Tryz.prog 17 #[ratV (zS n) (zS d)] w fun e w' => e = .returned (.tuple #[.int .i64 (n), .int .i64 (d), .bool true]) ∧ Below w.heap.size w w' := by
  have HF := Lib.hid (fun wx hw => fewF_yes n d wx hw hf hn hd)
  obtain ⟨s, hs2⟩ : ∃ s, s = zS n := ⟨_, rfl⟩
  obtain ⟨t, ht⟩ : ∃ s, s = zS d := ⟨_, rfl⟩
  rw [← hs2, ← ht] at HF ⊢
  have HX := BxR.new w s t
  have x0 := HX.num
  have x1 := HX.den
  have HB := Lib.hid ((Below.refl w.heap.size w).alloc (Nat.le_refl _) (ratO s t))
  have HS := Lib.hid (hs.below HB.out)
  clear hs2 ht HX hn hd hs hf
  go_enter Tryz.func17, Tryz.ntmps17
  go_wp2_with fail
  refine (HF.out _ HS.out).mono ?_
  rintro e w1 ⟨rfl, h1⟩
  have B1 := Lib.hid (HB.out.trans (h1.mono HB.out.size))
  have A := BxT.new w1 w.heap.size B1.out.size 78 (.int .i64 (n)) (.int .i64 (d))
  have cc0 := A.c0
  have cc1 := A.c1
  have D1 := Lib.hid (B1.out.alloc B1.out.size (.cells #[.int .i64 (n), .int .i64 (d)] 78))
  clear A h1
  go_wp2_with fail
  go_quiet (fail)
  go_wp2_with fail
  go_ret3
  exact ⟨rfl, below_drewN D1.out _⟩
set_option maxHeartbeats 800000 in
theorem smallF_no (n d : Int) (w : World) (hs : Std w) (hf : ¬ fewOk n d) (hn : (str n.natAbs).size ≤ 1000000) (hd : (str d.natAbs).size ≤ 1000000) :
    Calls Tryz.prog 17 #[ratV (zS n) (zS d)] w fun e w' => e = .returned (.tuple #[.int .i64 (0), .int .i64 (0), .bool false]) ∧ Below w.heap.size w w' := by
  have HF := Lib.hid (fun wx hw => fewF_no n d wx hw hf hn hd)
  obtain ⟨s, hs2⟩ : ∃ s, s = zS n := ⟨_, rfl⟩
  obtain ⟨t, ht⟩ : ∃ s, s = zS d := ⟨_, rfl⟩
  rw [← hs2, ← ht] at HF ⊢
  have HX := BxR.new w s t
  have x0 := HX.num
  have x1 := HX.den
  have HB := Lib.hid ((Below.refl w.heap.size w).alloc (Nat.le_refl _) (ratO s t))
  have HS := Lib.hid (hs.below HB.out)
  clear hs2 ht HX hn hd hs hf
  go_enter Tryz.func17, Tryz.ntmps17
  go_wp2_with fail
  refine (HF.out _ HS.out).mono ?_
  rintro e w1 ⟨rfl, h1⟩
  have B1 := Lib.hid (HB.out.trans (h1.mono HB.out.size))
  have A := BxT.new w1 w.heap.size B1.out.size 78 (.int .i64 (0)) (.int .i64 (0))
  have cc0 := A.c0
  have cc1 := A.c1
  have D1 := Lib.hid (B1.out.alloc B1.out.size (.cells #[.int .i64 (0), .int .i64 (0)] 78))
  clear A h1
  go_wp2_with fail
  go_quiet (fail)
  go_wp2_with fail
  go_ret3
  exact ⟨rfl, below_drewN D1.out _⟩
end Go.Proofs.YtdgbplppabalgaaGreatDoor

namespace Go.Proofs.YtdgbplppabalgaaGreatDoor
open Go.RowKit

def longB (s t : ByteArray) (k : Nat) : Bool := decide (k < s.size) || decide (k < t.size)
theorem longF_any (s t : ByteArray) (k : Nat) (w : World) :
    Calls Tryz.prog 14 #[ratV s t, .int .i64 k] w fun e w' => e = .returned (.bool (longB s t k)) ∧ Below w.heap.size w w' := by
  have HZ := Lib.hid (BxR.new w s t)
  have HB := Lib.hid ((Below.refl w.heap.size w).alloc (Nat.le_refl _) (ratO s t))
  by_cases h1 : k < s.size
  · have hV := Lib.hid (show longB s t k = true by unfold longB; rw [decide_eq_true h1]; rfl)
    have hp : ((k : Nat) : Int) < s.size := by omega
    obtain ⟨V, hVV⟩ : ∃ V, V = longB s t k := ⟨_, rfl⟩
    rw [← hVV] at hV ⊢
    clear h1 hVV
    go_enter Tryz.func14, Tryz.ntmps14
    go_upto_region 1 with fail
    obtain ⟨W0, hW0⟩ : ∃ W0, W0 = w.alloc (ratO s t) := ⟨_, rfl⟩
    rw [← hW0] at HZ HB ⊢
    clear hW0
    have c1 := HZ.out.num
    have c2 := HZ.out.den
    go_wp2_with fail
    go_ret
    exact ⟨by rw [hV.out]; rfl, HB.out⟩
  · have hV := Lib.hid (show longB s t k = decide (k < t.size) by unfold longB; rw [decide_eq_false h1, Bool.false_or])
    have hp : ¬ ((k : Nat) : Int) < s.size := by omega
    have hp2 : decide (((k : Nat) : Int) < s.size) = false := decide_eq_false hp
    obtain ⟨V, hVV⟩ : ∃ V, V = longB s t k := ⟨_, rfl⟩
    rw [← hVV] at hV ⊢
    clear h1 hVV
    go_enter Tryz.func14, Tryz.ntmps14
    go_upto_region 1 with fail
    obtain ⟨W0, hW0⟩ : ∃ W0, W0 = w.alloc (ratO s t) := ⟨_, rfl⟩
    rw [← hW0] at HZ HB ⊢
    clear hW0
    have c1 := HZ.out.num
    have c2 := HZ.out.den
    go_wp2_with fail
    go_ret
    exact ⟨by rw [hV.out]; rfl, HB.out⟩
/-- the box of a fraction that came in -/
structure Bi (w W : World) (s t : ByteArray) : Prop where
  below : Below w.heap.size w W
  box : BxR W w.heap.size s t
theorem Bi.to {w W W' : World} {s t : ByteArray} (h : Bi w W s t) (hb : Below W.heap.size W W') : Bi w W' s t := ⟨h.below.trans (hb.mono h.below.size), h.box.below hb⟩
theorem Bi.new (w : World) (s t : ByteArray) : Bi w (w.alloc (ratO s t)) s t := ⟨(Below.refl w.heap.size w).alloc (Nat.le_refl _) _, BxR.new w s t⟩
theorem size18 {n : Int} : (str n.natAbs).size ≤ 18 ↔ (-1000000000000000000 < n ∧ n < 1000000000000000000) := by
  constructor
  · intro h
    have h0 := Lib.lt_pow_nDigits n.natAbs
    rw [str_size] at h
    have h1 := Nat.lt_of_lt_of_le h0 (Nat.pow_le_pow_right (n := 10) (by decide) h)
    have : (10 : Nat) ^ 18 = 1000000000000000000 := by decide
    rw [this] at h1
    omega
  · intro h
    exact str_big (n := 18) (by have : (10 : Nat) ^ 18 = 1000000000000000000 := by decide
                                rw [this]; omega) (by decide)
end Go.Proofs.YtdgbplppabalgaaGreatDoor

namespace Go.Proofs.YtdgbplppabalgaaGreatDoor
open Go.RowKit

/-- a row of texts in a block -/
structure Rw (W : World) (g : Nat) (l : List ByteArray) : Prop where
  lt : g < W.heap.size
  get : ∀ i (h : i < l.length), W.cell? ⟨g, i, none⟩ = some (.string l[i])
theorem Rw.below {W W' : World} {g : Nat} {l : List ByteArray} (h : Rw W g l) (hb : Below W.heap.size W W') : Rw W' g l :=
  ⟨Nat.lt_of_lt_of_le h.lt hb.size, fun i hi => by rw [hb.cell (p := ⟨g, i, none⟩) h.lt]; exact h.get i hi⟩
def okF (s t : ByteArray) : Bool := !longB s t 60 && riB s t
theorem okF_size {s t : ByteArray} (h : longB s t 60 = false) : s.size ≤ 60 ∧ t.size ≤ 60 := by
  unfold longB at h
  rw [Bool.or_eq_false_iff] at h
  have := of_decide_eq_false h.1
  have := of_decide_eq_false h.2
  omega
theorem cat_three (s t : ByteArray) : s ++ ⟨#[47]⟩ ++ t = s ++ ⟨#[47]⟩ ++ t := rfl
set_option maxHeartbeats 800000 in
theorem textY_any (s t : ByteArray) (w : World) (h1 : s.size ≤ 1000001) (h2 : t.size ≤ 1000001) :
    Calls Tryz.prog 29 #[ratV s t] w fun e w' => e = .returned (.string (rtxt s t)) ∧ Below w.heap.size w w' := by
  have HZ := Lib.hid (Bi.new w s t)
  have k1 : s.size + 1 ≤ 9223372036854775807 := by omega
  have k3 : (s ++ (⟨#[47]⟩ : ByteArray)).size + t.size ≤ 9223372036854775807 := by rw [ByteArray.size_append]; show s.size + 1 + t.size ≤ _; omega
  have k4 : s.size + 1 + t.size ≤ 9223372036854775807 := by omega
  by_cases h : t = ⟨#[49]⟩
  · subst h
    rw [rtxt_one rfl]
    go_enter Tryz.func29, Tryz.ntmps29
    go_upto_region 1 with fail
    obtain ⟨W0, hW0⟩ : ∃ W0, W0 = w.alloc (ratO s ⟨#[49]⟩) := ⟨_, rfl⟩
    rw [← hW0] at HZ ⊢
    clear hW0
    have c1 := HZ.out.box.num
    have c2 := HZ.out.box.den
    go_wp2_with fail
    go_ret
    exact ⟨rfl, HZ.out.below⟩
  · rw [rtxt_far h]
    have hb : (t.toList == [49]) = false := ba_ne (l := [49]) h
    clear h h1 h2
    go_enter Tryz.func29, Tryz.ntmps29
    go_upto_region 1 with fail
    obtain ⟨W0, hW0⟩ : ∃ W0, W0 = w.alloc (ratO s t) := ⟨_, rfl⟩
    rw [← hW0] at HZ ⊢
    clear hW0
    have c1 := HZ.out.box.num
    have c2 := HZ.out.box.den
    go_wp2_with fail
    go_ret
    exact ⟨rfl, HZ.out.below⟩
set_option maxHeartbeats 3200000 in
set_option maxRecDepth 100000 in
theorem fits1_any (s0 t0 : ByteArray) (g : Nat) (w : World) (hs : Stf w) (hr : Rw w g [s0, t0]) :
    Calls Tryz.prog 26 #[.slice (some ⟨g, 0, none⟩) 1 1] w fun e w' => e = .returned (.bool (okF s0 t0)) ∧ Below w.heap.size w w' := by
  have HS := Lib.hid hs
  have HR0 := Lib.hid hr
  have HB0 := Lib.hid (Below.refl w.heap.size w)
  have HL0 := Lib.hid (fun wx => longF_any s0 t0 60 wx)
  clear hs hr
  cases l0 : longB s0 t0 60 with
  | true =>
    rw [l0] at HL0
    have hV := Lib.hid (show (okF s0 t0) = false by unfold okF; rw [l0]; rfl)
    obtain ⟨V, hVV⟩ : ∃ V, V = (okF s0 t0) := ⟨_, rfl⟩
    rw [← hVV] at hV ⊢
    clear hVV  l0
    go_enter Tryz.func26, Tryz.ntmps26
    go_wp2_with fail
    refine wp_loop_rounds 1 ?_
    rw [rounds_succ]
    have hc0 : w.cell? ⟨g, 0, none⟩ = some (.string s0) := HR0.out.get 0 (by show 0 < 2; decide)
    have hd0 : w.cell? ⟨g, 1, none⟩ = some (.string t0) := HR0.out.get 1 (by show 1 < 2; decide)
    go_wp2_with fail
    refine (HL0.out _).mono ?_
    rintro e w1 ⟨rfl, b1⟩
    have HB1 := Lib.hid (HB0.out.trans (b1.mono HB0.out.size))
    have HR1 := Lib.hid (HR0.out.below b1)
    clear b1 hc0 hd0
    go_wp2_with fail
    go_ret
    exact ⟨by rw [hV.out]; rfl, HB1.out⟩
  | false =>
    rw [l0] at HL0
    have HQ0 := Lib.hid (fun wx (hw : Std wx) => rightY_any s0 t0 wx hw (by have := okF_size l0; omega) (by have := okF_size l0; omega))
    cases r0 : riB s0 t0 with
    | false =>
      rw [r0] at HQ0
      have hV := Lib.hid (show (okF s0 t0) = false by unfold okF; rw [l0, r0]; rfl)
      obtain ⟨V, hVV⟩ : ∃ V, V = (okF s0 t0) := ⟨_, rfl⟩
      rw [← hVV] at hV ⊢
      clear hVV  l0 r0
      go_enter Tryz.func26, Tryz.ntmps26
      go_wp2_with fail
      refine wp_loop_rounds 1 ?_
      rw [rounds_succ]
      have hc0 : w.cell? ⟨g, 0, none⟩ = some (.string s0) := HR0.out.get 0 (by show 0 < 2; decide)
      have hd0 : w.cell? ⟨g, 1, none⟩ = some (.string t0) := HR0.out.get 1 (by show 1 < 2; decide)
      go_wp2_with fail
      refine (HL0.out _).mono ?_
      rintro e w1 ⟨rfl, b1⟩
      have HB1 := Lib.hid (HB0.out.trans (b1.mono HB0.out.size))
      have HR1 := Lib.hid (HR0.out.below b1)
      clear b1 hc0 hd0
      have hc1 : w1.cell? ⟨g, 0, none⟩ = some (.string s0) := HR1.out.get 0 (by show 0 < 2; decide)
      have hd1 : w1.cell? ⟨g, 1, none⟩ = some (.string t0) := HR1.out.get 1 (by show 1 < 2; decide)
      go_wp2_with fail
      refine (HQ0.out _ (HS.out.below HB1.out).std).mono ?_
      rintro e w2 ⟨rfl, b2⟩
      have HB2 := Lib.hid (HB1.out.trans (b2.mono HB1.out.size))
      have HR2 := Lib.hid (HR1.out.below b2)
      clear b2 hc1 hd1
      go_wp2_with fail
      go_ret
      exact ⟨by rw [hV.out]; rfl, HB2.out⟩
    | true =>
      rw [r0] at HQ0
      have hV := Lib.hid (show (okF s0 t0) = true by unfold okF; rw [l0, r0]; rfl)
      obtain ⟨V, hVV⟩ : ∃ V, V = (okF s0 t0) := ⟨_, rfl⟩
      rw [← hVV] at hV ⊢
      clear hVV l0 r0
      go_enter Tryz.func26, Tryz.ntmps26
      go_wp2_with fail
      refine wp_loop_rounds 2 ?_
      rw [rounds_succ]
      have hc0 : w.cell? ⟨g, 0, none⟩ = some (.string s0) := HR0.out.get 0 (by show 0 < 2; decide)
      have hd0 : w.cell? ⟨g, 1, none⟩ = some (.string t0) := HR0.out.get 1 (by show 1 < 2; decide)
      go_wp2_with fail
      refine (HL0.out _).mono ?_
      rintro e w1 ⟨rfl, b1⟩
      have HB1 := Lib.hid (HB0.out.trans (b1.mono HB0.out.size))
      have HR1 := Lib.hid (HR0.out.below b1)
      clear b1 hc0 hd0
      have hc1 : w1.cell? ⟨g, 0, none⟩ = some (.string s0) := HR1.out.get 0 (by show 0 < 2; decide)
      have hd1 : w1.cell? ⟨g, 1, none⟩ = some (.string t0) := HR1.out.get 1 (by show 1 < 2; decide)
      go_wp2_with fail
      refine (HQ0.out _ (HS.out.below HB1.out).std).mono ?_
      rintro e w2 ⟨rfl, b2⟩
      have HB2 := Lib.hid (HB1.out.trans (b2.mono HB1.out.size))
      have HR2 := Lib.hid (HR1.out.below b2)
      clear b2 hc1 hd1
      go_wp2_with fail
      rw [rounds_succ]
      go_wp2_with fail
      go_ret
      exact ⟨by rw [hV.out]; rfl, HB2.out⟩
set_option maxHeartbeats 3200000 in
set_option maxRecDepth 100000 in
theorem fits2_any (s0 t0 s1 t1 : ByteArray) (g : Nat) (w : World) (hs : Stf w) (hr : Rw w g [s0, t0, s1, t1]) :
    Calls Tryz.prog 26 #[.slice (some ⟨g, 0, none⟩) 2 2] w fun e w' => e = .returned (.bool (okF s0 t0 && okF s1 t1)) ∧ Below w.heap.size w w' := by
  have HS := Lib.hid hs
  have HR0 := Lib.hid hr
  have HB0 := Lib.hid (Below.refl w.heap.size w)
  have HL0 := Lib.hid (fun wx => longF_any s0 t0 60 wx)
  have HL1 := Lib.hid (fun wx => longF_any s1 t1 60 wx)
  clear hs hr
  cases l0 : longB s0 t0 60 with
  | true =>
    rw [l0] at HL0
    have hV := Lib.hid (show (okF s0 t0 && okF s1 t1) = false by unfold okF; rw [l0]; rfl)
    obtain ⟨V, hVV⟩ : ∃ V, V = (okF s0 t0 && okF s1 t1) := ⟨_, rfl⟩
    rw [← hVV] at hV ⊢
    clear hVV  l0
    go_enter Tryz.func26, Tryz.ntmps26
    go_wp2_with fail
    refine wp_loop_rounds 1 ?_
    rw [rounds_succ]
    have hc0 : w.cell? ⟨g, 0, none⟩ = some (.string s0) := HR0.out.get 0 (by show 0 < 4; decide)
    have hd0 : w.cell? ⟨g, 1, none⟩ = some (.string t0) := HR0.out.get 1 (by show 1 < 4; decide)
    go_wp2_with fail
    refine (HL0.out _).mono ?_
    rintro e w1 ⟨rfl, b1⟩
    have HB1 := Lib.hid (HB0.out.trans (b1.mono HB0.out.size))
    have HR1 := Lib.hid (HR0.out.below b1)
    clear b1 hc0 hd0
    go_wp2_with fail
    go_ret
    exact ⟨by rw [hV.out]; rfl, HB1.out⟩
  | false =>
    rw [l0] at HL0
    have HQ0 := Lib.hid (fun wx (hw : Std wx) => rightY_any s0 t0 wx hw (by have := okF_size l0; omega) (by have := okF_size l0; omega))
    cases r0 : riB s0 t0 with
    | false =>
      rw [r0] at HQ0
      have hV := Lib.hid (show (okF s0 t0 && okF s1 t1) = false by unfold okF; rw [l0, r0]; rfl)
      obtain ⟨V, hVV⟩ : ∃ V, V = (okF s0 t0 && okF s1 t1) := ⟨_, rfl⟩
      rw [← hVV] at hV ⊢
      clear hVV  l0 r0
      go_enter Tryz.func26, Tryz.ntmps26
      go_wp2_with fail
      refine wp_loop_rounds 1 ?_
      rw [rounds_succ]
      have hc0 : w.cell? ⟨g, 0, none⟩ = some (.string s0) := HR0.out.get 0 (by show 0 < 4; decide)
      have hd0 : w.cell? ⟨g, 1, none⟩ = some (.string t0) := HR0.out.get 1 (by show 1 < 4; decide)
      go_wp2_with fail
      refine (HL0.out _).mono ?_
      rintro e w1 ⟨rfl, b1⟩
      have HB1 := Lib.hid (HB0.out.trans (b1.mono HB0.out.size))
      have HR1 := Lib.hid (HR0.out.below b1)
      clear b1 hc0 hd0
      have hc1 : w1.cell? ⟨g, 0, none⟩ = some (.string s0) := HR1.out.get 0 (by show 0 < 4; decide)
      have hd1 : w1.cell? ⟨g, 1, none⟩ = some (.string t0) := HR1.out.get 1 (by show 1 < 4; decide)
      go_wp2_with fail
      refine (HQ0.out _ (HS.out.below HB1.out).std).mono ?_
      rintro e w2 ⟨rfl, b2⟩
      have HB2 := Lib.hid (HB1.out.trans (b2.mono HB1.out.size))
      have HR2 := Lib.hid (HR1.out.below b2)
      clear b2 hc1 hd1
      go_wp2_with fail
      go_ret
      exact ⟨by rw [hV.out]; rfl, HB2.out⟩
    | true =>
      rw [r0] at HQ0
      cases l1 : longB s1 t1 60 with
      | true =>
        rw [l1] at HL1
        have hV := Lib.hid (show (okF s0 t0 && okF s1 t1) = false by unfold okF; rw [l0, r0, l1]; rfl)
        obtain ⟨V, hVV⟩ : ∃ V, V = (okF s0 t0 && okF s1 t1) := ⟨_, rfl⟩
        rw [← hVV] at hV ⊢
        clear hVV l0 r0 l1
        go_enter Tryz.func26, Tryz.ntmps26
        go_wp2_with fail
        refine wp_loop_rounds 2 ?_
        rw [rounds_succ]
        have hc0 : w.cell? ⟨g, 0, none⟩ = some (.string s0) := HR0.out.get 0 (by show 0 < 4; decide)
        have hd0 : w.cell? ⟨g, 1, none⟩ = some (.string t0) := HR0.out.get 1 (by show 1 < 4; decide)
        go_wp2_with fail
        refine (HL0.out _).mono ?_
        rintro e w1 ⟨rfl, b1⟩
        have HB1 := Lib.hid (HB0.out.trans (b1.mono HB0.out.size))
        have HR1 := Lib.hid (HR0.out.below b1)
        clear b1 hc0 hd0
        have hc1 : w1.cell? ⟨g, 0, none⟩ = some (.string s0) := HR1.out.get 0 (by show 0 < 4; decide)
        have hd1 : w1.cell? ⟨g, 1, none⟩ = some (.string t0) := HR1.out.get 1 (by show 1 < 4; decide)
        go_wp2_with fail
        refine (HQ0.out _ (HS.out.below HB1.out).std).mono ?_
        rintro e w2 ⟨rfl, b2⟩
        have HB2 := Lib.hid (HB1.out.trans (b2.mono HB1.out.size))
        have HR2 := Lib.hid (HR1.out.below b2)
        clear b2 hc1 hd1
        go_wp2_with fail
        rw [rounds_succ]
        have hc2 : w2.cell? ⟨g, 2, none⟩ = some (.string s1) := HR2.out.get 2 (by show 2 < 4; decide)
        have hd2 : w2.cell? ⟨g, 3, none⟩ = some (.string t1) := HR2.out.get 3 (by show 3 < 4; decide)
        go_wp2_with fail
        refine (HL1.out _).mono ?_
        rintro e w3 ⟨rfl, b3⟩
        have HB3 := Lib.hid (HB2.out.trans (b3.mono HB2.out.size))
        have HR3 := Lib.hid (HR2.out.below b3)
        clear b3 hc2 hd2
        go_wp2_with fail
        go_ret
        exact ⟨by rw [hV.out]; rfl, HB3.out⟩
      | false =>
        rw [l1] at HL1
        have HQ1 := Lib.hid (fun wx (hw : Std wx) => rightY_any s1 t1 wx hw (by have := okF_size l1; omega) (by have := okF_size l1; omega))
        cases r1 : riB s1 t1 with
        | false =>
          rw [r1] at HQ1
          have hV := Lib.hid (show (okF s0 t0 && okF s1 t1) = false by unfold okF; rw [l0, r0, l1, r1]; rfl)
          obtain ⟨V, hVV⟩ : ∃ V, V = (okF s0 t0 && okF s1 t1) := ⟨_, rfl⟩
          rw [← hVV] at hV ⊢
          clear hVV l0 r0 l1 r1
          go_enter Tryz.func26, Tryz.ntmps26
          go_wp2_with fail
          refine wp_loop_rounds 2 ?_
          rw [rounds_succ]
          have hc0 : w.cell? ⟨g, 0, none⟩ = some (.string s0) := HR0.out.get 0 (by show 0 < 4; decide)
          have hd0 : w.cell? ⟨g, 1, none⟩ = some (.string t0) := HR0.out.get 1 (by show 1 < 4; decide)
          go_wp2_with fail
          refine (HL0.out _).mono ?_
          rintro e w1 ⟨rfl, b1⟩
          have HB1 := Lib.hid (HB0.out.trans (b1.mono HB0.out.size))
          have HR1 := Lib.hid (HR0.out.below b1)
          clear b1 hc0 hd0
          have hc1 : w1.cell? ⟨g, 0, none⟩ = some (.string s0) := HR1.out.get 0 (by show 0 < 4; decide)
          have hd1 : w1.cell? ⟨g, 1, none⟩ = some (.string t0) := HR1.out.get 1 (by show 1 < 4; decide)
          go_wp2_with fail
          refine (HQ0.out _ (HS.out.below HB1.out).std).mono ?_
          rintro e w2 ⟨rfl, b2⟩
          have HB2 := Lib.hid (HB1.out.trans (b2.mono HB1.out.size))
          have HR2 := Lib.hid (HR1.out.below b2)
          clear b2 hc1 hd1
          go_wp2_with fail
          rw [rounds_succ]
          have hc2 : w2.cell? ⟨g, 2, none⟩ = some (.string s1) := HR2.out.get 2 (by show 2 < 4; decide)
          have hd2 : w2.cell? ⟨g, 3, none⟩ = some (.string t1) := HR2.out.get 3 (by show 3 < 4; decide)
          go_wp2_with fail
          refine (HL1.out _).mono ?_
          rintro e w3 ⟨rfl, b3⟩
          have HB3 := Lib.hid (HB2.out.trans (b3.mono HB2.out.size))
          have HR3 := Lib.hid (HR2.out.below b3)
          clear b3 hc2 hd2
          have hc3 : w3.cell? ⟨g, 2, none⟩ = some (.string s1) := HR3.out.get 2 (by show 2 < 4; decide)
          have hd3 : w3.cell? ⟨g, 3, none⟩ = some (.string t1) := HR3.out.get 3 (by show 3 < 4; decide)
          go_wp2_with fail
          refine (HQ1.out _ (HS.out.below HB3.out).std).mono ?_
          rintro e w4 ⟨rfl, b4⟩
          have HB4 := Lib.hid (HB3.out.trans (b4.mono HB3.out.size))
          have HR4 := Lib.hid (HR3.out.below b4)
          clear b4 hc3 hd3
          go_wp2_with fail
          go_ret
          exact ⟨by rw [hV.out]; rfl, HB4.out⟩
        | true =>
          rw [r1] at HQ1
          have hV := Lib.hid (show (okF s0 t0 && okF s1 t1) = true by unfold okF; rw [l0, r0, l1, r1]; rfl)
          obtain ⟨V, hVV⟩ : ∃ V, V = (okF s0 t0 && okF s1 t1) := ⟨_, rfl⟩
          rw [← hVV] at hV ⊢
          clear hVV l0 r0 l1 r1
          go_enter Tryz.func26, Tryz.ntmps26
          go_wp2_with fail
          refine wp_loop_rounds 3 ?_
          rw [rounds_succ]
          have hc0 : w.cell? ⟨g, 0, none⟩ = some (.string s0) := HR0.out.get 0 (by show 0 < 4; decide)
          have hd0 : w.cell? ⟨g, 1, none⟩ = some (.string t0) := HR0.out.get 1 (by show 1 < 4; decide)
          go_wp2_with fail
          refine (HL0.out _).mono ?_
          rintro e w1 ⟨rfl, b1⟩
          have HB1 := Lib.hid (HB0.out.trans (b1.mono HB0.out.size))
          have HR1 := Lib.hid (HR0.out.below b1)
          clear b1 hc0 hd0
          have hc1 : w1.cell? ⟨g, 0, none⟩ = some (.string s0) := HR1.out.get 0 (by show 0 < 4; decide)
          have hd1 : w1.cell? ⟨g, 1, none⟩ = some (.string t0) := HR1.out.get 1 (by show 1 < 4; decide)
          go_wp2_with fail
          refine (HQ0.out _ (HS.out.below HB1.out).std).mono ?_
          rintro e w2 ⟨rfl, b2⟩
          have HB2 := Lib.hid (HB1.out.trans (b2.mono HB1.out.size))
          have HR2 := Lib.hid (HR1.out.below b2)
          clear b2 hc1 hd1
          go_wp2_with fail
          rw [rounds_succ]
          have hc2 : w2.cell? ⟨g, 2, none⟩ = some (.string s1) := HR2.out.get 2 (by show 2 < 4; decide)
          have hd2 : w2.cell? ⟨g, 3, none⟩ = some (.string t1) := HR2.out.get 3 (by show 3 < 4; decide)
          go_wp2_with fail
          refine (HL1.out _).mono ?_
          rintro e w3 ⟨rfl, b3⟩
          have HB3 := Lib.hid (HB2.out.trans (b3.mono HB2.out.size))
          have HR3 := Lib.hid (HR2.out.below b3)
          clear b3 hc2 hd2
          have hc3 : w3.cell? ⟨g, 2, none⟩ = some (.string s1) := HR3.out.get 2 (by show 2 < 4; decide)
          have hd3 : w3.cell? ⟨g, 3, none⟩ = some (.string t1) := HR3.out.get 3 (by show 3 < 4; decide)
          go_wp2_with fail
          refine (HQ1.out _ (HS.out.below HB3.out).std).mono ?_
          rintro e w4 ⟨rfl, b4⟩
          have HB4 := Lib.hid (HB3.out.trans (b4.mono HB3.out.size))
          have HR4 := Lib.hid (HR3.out.below b4)
          clear b4 hc3 hd3
          go_wp2_with fail
          rw [rounds_succ]
          go_wp2_with fail
          go_ret
          exact ⟨by rw [hV.out]; rfl, HB4.out⟩
end Go.Proofs.YtdgbplppabalgaaGreatDoor
