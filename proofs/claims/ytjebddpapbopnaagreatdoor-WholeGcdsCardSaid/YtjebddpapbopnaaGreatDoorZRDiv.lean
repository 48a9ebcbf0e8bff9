/-
  The reference of package whole: DivMod.
-/
import Derived.Test.YtjebddpapbopnaaGreatDoorZDivd
import Derived.Test.YtjebddpapbopnaaGreatDoorZRMul
namespace Go.Proofs.YtjebddpapbopnaaGreatDoor
open Go.RowKit

theorem tdm_small (m n : Int) (h1 : -1000000000000000000 < m) (h2 : m < 1000000000000000000) : (-1000000000000000000 < m.tdiv n ∧ m.tdiv n < 1000000000000000000) ∧ -1000000000000000000 < m.tmod n ∧ m.tmod n < 1000000000000000000 :=
  ⟨tdiv_small m n h1 h2, tmod_small m n h1 h2⟩
set_option maxHeartbeats 3200000 in
theorem divR_near (x y : Int) (w : World) (hs : Std w) (hx : (str x.natAbs).size ≤ 18) (hy : (str y.natAbs).size ≤ 18) (hn : y ≠ 0) :
    Calls Tryz.prog 42 #[.string (zS x), .string (zS y)] w fun e w' => e = .returned (.tuple #[.string (zS (x.fdiv y)), .string (zS (x.fmod y))]) ∧ Below w.heap.size w w' := by
  have hbx := lt_of_size hx
  have hby := lt_of_size hy
  rw [← (dn_eq x hn).1, ← (dn_eq x hn).2]
  have HQ1 := Lib.hid (fun wx => quickZ_yes x wx hx)
  have HQ2 := Lib.hid (fun wx => quickZ_yes y wx hy)
  obtain ⟨⟨q1, q2⟩, r1, r2⟩ := tdm_small x y (by omega) (by omega)
  have HQ := Lib.hid (show dnQ x y = if offB x y = true then x.tdiv y - 1 else x.tdiv y from rfl)
  have HR := Lib.hid (show dnR x y = if offB x y = true then x.tmod y + y else x.tmod y from rfl)
  have HO := Lib.hid (show offB x y = ((x.tmod y != 0) && (decide (x.tmod y < 0) != decide (y < 0))) from rfl)
  obtain ⟨⟨d1, d2⟩, d3, d4⟩ := dn_small x y (by omega) (by omega) (by omega) (by omega)
  have HOQ := Lib.hid (fun wx hw => ofR2_any (dnQ x y) wx hw (by omega) (by omega))
  have HOR := Lib.hid (fun wx hw => ofR2_any (dnR x y) wx hw (by omega) (by omega))
  have HS := Lib.hid hs
  obtain ⟨q, hq⟩ : ∃ q, q = x.tdiv y := ⟨_, rfl⟩
  obtain ⟨r, hr⟩ : ∃ r, r = x.tmod y := ⟨_, rfl⟩
  rw [← hq] at q1 q2 HQ
  rw [← hr] at r1 r2 HR HO
  have hq' := hq.symm
  have hr' := hr.symm
  have hnz : (y == 0) = false := by rw [beq_eq_false_iff_ne]; exact hn
  have wq := IntWalk.i64_in q ⟨by omega, by omega⟩
  have wr := IntWalk.i64_in r ⟨by omega, by omega⟩
  have wq1 := IntWalk.i64_in (q - 1) ⟨by omega, by omega⟩
  have wr1 := IntWalk.i64_in (r + y) ⟨by omega, by omega⟩
  obtain ⟨Q, hQ⟩ : ∃ Q, Q = dnQ x y := ⟨_, rfl⟩
  obtain ⟨R, hR⟩ : ∃ R, R = dnR x y := ⟨_, rfl⟩
  obtain ⟨O, hO⟩ : ∃ O, O = offB x y := ⟨_, rfl⟩
  rw [← hQ] at HQ HOQ ⊢
  rw [← hR] at HR HOR ⊢
  rw [← hO] at HQ HR HO
  obtain ⟨s, hs2⟩ : ∃ d, d = zS x := ⟨_, rfl⟩
  obtain ⟨t, ht⟩ : ∃ d, d = zS y := ⟨_, rfl⟩
  obtain ⟨u, hu⟩ : ∃ d, d = zS Q := ⟨_, rfl⟩
  obtain ⟨v, hv⟩ : ∃ d, d = zS R := ⟨_, rfl⟩
  rw [← hs2] at HQ1 ⊢
  rw [← ht] at HQ2 ⊢
  rw [← hu] at HOQ ⊢
  rw [← hv] at HOR ⊢
  clear hq hr hQ hR hO d1 d2 d3 d4 hx hy hbx hby hs hs2 ht hu hv
  by_cases hz : r = 0
  · have HO2 := Lib.hid (show O = false by rw [HO.out, hz]; rfl)
    have hzb : (r != 0) = false := by rw [hz]; rfl
    have HQ3 := Lib.hid (show Q = q by rw [HQ.out, HO2.out]; rfl)
    have HR3 := Lib.hid (show R = r by rw [HR.out, HO2.out]; rfl)
    clear hz HQ HR HO
    go_enter Tryz.func42, Tryz.ntmps42
    go_wp2_with fail
    refine (HQ1.out _).mono ?_
    rintro e w1 ⟨rfl, rfl⟩
    go_wp2_with fail
    refine (HQ2.out _).mono ?_
    rintro e w1 ⟨rfl, rfl⟩
    go_wp2_with fail
    go_quiet (fail)
    go_wp2_with fail
    rw [← HQ3.out]
    refine (HOQ.out _ (HS.out.below (below_drewN (Below.refl _ _) _))).mono ?_
    rintro e w2 ⟨rfl, h2⟩
    have B2 := Lib.hid ((below_drewN (Below.refl _ _) _).trans h2)
    clear h2
    go_wp2_with fail
    rw [← HR3.out]
    refine (HOR.out _ (HS.out.below B2.out)).mono ?_
    rintro e w3 ⟨rfl, h3⟩
    have B3 := Lib.hid (B2.out.trans (h3.mono B2.out.size))
    clear h3
    go_wp2_with fail
    go_ret2
    exact ⟨rfl, B3.out⟩
  · have hzb : (r != 0) = true := by simpa using hz
    by_cases hr0 : r < 0
    · by_cases hn0 : y < 0
      · have hrd : decide (r < 0) = true := decide_eq_true hr0
        have hnd : decide (y < 0) = true := decide_eq_true hn0
        have HO2 := Lib.hid (show O = false by rw [HO.out, hzb, hrd, hnd]; rfl)
        have HQ3 := Lib.hid (show Q = q by rw [HQ.out, HO2.out]; rfl)
        have HR3 := Lib.hid (show R = r by rw [HR.out, HO2.out]; rfl)
        clear hz HQ HR HO hr0 hn0
        go_enter Tryz.func42, Tryz.ntmps42
        go_wp2_with fail
        refine (HQ1.out _).mono ?_
        rintro e w1 ⟨rfl, rfl⟩
        go_wp2_with fail
        refine (HQ2.out _).mono ?_
        rintro e w1 ⟨rfl, rfl⟩
        go_wp2_with fail
        go_quiet (fail)
        go_wp2_with fail
        rw [← HQ3.out]
        refine (HOQ.out _ (HS.out.below (below_drewN (Below.refl _ _) _))).mono ?_
        rintro e w2 ⟨rfl, h2⟩
        have B2 := Lib.hid ((below_drewN (Below.refl _ _) _).trans h2)
        clear h2
        go_wp2_with fail
        rw [← HR3.out]
        refine (HOR.out _ (HS.out.below B2.out)).mono ?_
        rintro e w3 ⟨rfl, h3⟩
        have B3 := Lib.hid (B2.out.trans (h3.mono B2.out.size))
        clear h3
        go_wp2_with fail
        go_ret2
        exact ⟨rfl, B3.out⟩
      · have hrd : decide (r < 0) = true := decide_eq_true hr0
        have hnd : decide (y < 0) = false := decide_eq_false hn0
        have HO2 := Lib.hid (show O = true by rw [HO.out, hzb, hrd, hnd]; rfl)
        have HQ3 := Lib.hid (show Q = q - 1 by rw [HQ.out, HO2.out]; rfl)
        have HR3 := Lib.hid (show R = r + y by rw [HR.out, HO2.out]; rfl)
        clear hz HQ HR HO hr0 hn0
        go_enter Tryz.func42, Tryz.ntmps42
        go_wp2_with fail
        refine (HQ1.out _).mono ?_
        rintro e w1 ⟨rfl, rfl⟩
        go_wp2_with fail
        refine (HQ2.out _).mono ?_
        rintro e w1 ⟨rfl, rfl⟩
        go_wp2_with fail
        go_quiet (fail)
        go_wp2_with fail
        rw [← HQ3.out]
        refine (HOQ.out _ (HS.out.below (below_drewN (Below.refl _ _) _))).mono ?_
        rintro e w2 ⟨rfl, h2⟩
        have B2 := Lib.hid ((below_drewN (Below.refl _ _) _).trans h2)
        clear h2
        go_wp2_with fail
        rw [← HR3.out]
        refine (HOR.out _ (HS.out.below B2.out)).mono ?_
        rintro e w3 ⟨rfl, h3⟩
        have B3 := Lib.hid (B2.out.trans (h3.mono B2.out.size))
        clear h3
        go_wp2_with fail
        go_ret2
        exact ⟨rfl, B3.out⟩
    · by_cases hn0 : y < 0
      · have hrd : decide (r < 0) = false := decide_eq_false hr0
        have hnd : decide (y < 0) = true := decide_eq_true hn0
        have HO2 := Lib.hid (show O = true by rw [HO.out, hzb, hrd, hnd]; rfl)
        have HQ3 := Lib.hid (show Q = q - 1 by rw [HQ.out, HO2.out]; rfl)
        have HR3 := Lib.hid (show R = r + y by rw [HR.out, HO2.out]; rfl)
        clear hz HQ HR HO hr0 hn0
        go_enter Tryz.func42, Tryz.ntmps42
        go_wp2_with fail
        refine (HQ1.out _).mono ?_
        rintro e w1 ⟨rfl, rfl⟩
        go_wp2_with fail
        refine (HQ2.out _).mono ?_
        rintro e w1 ⟨rfl, rfl⟩
        go_wp2_with fail
        go_quiet (fail)
        go_wp2_with fail
        rw [← HQ3.out]
        refine (HOQ.out _ (HS.out.below (below_drewN (Below.refl _ _) _))).mono ?_
        rintro e w2 ⟨rfl, h2⟩
        have B2 := Lib.hid ((below_drewN (Below.refl _ _) _).trans h2)
        clear h2
        go_wp2_with fail
        rw [← HR3.out]
        refine (HOR.out _ (HS.out.below B2.out)).mono ?_
        rintro e w3 ⟨rfl, h3⟩
        have B3 := Lib.hid (B2.out.trans (h3.mono B2.out.size))
        clear h3
        go_wp2_with fail
        go_ret2
        exact ⟨rfl, B3.out⟩
      · have hrd : decide (r < 0) = false := decide_eq_false hr0
        have hnd : decide (y < 0) = false := decide_eq_false hn0
        have HO2 := Lib.hid (show O = false by rw [HO.out, hzb, hrd, hnd]; rfl)
        have HQ3 := Lib.hid (show Q = q by rw [HQ.out, HO2.out]; rfl)
        have HR3 := Lib.hid (show R = r by rw [HR.out, HO2.out]; rfl)
        clear hz HQ HR HO hr0 hn0
        go_enter Tryz.func42, Tryz.ntmps42
        go_wp2_with fail
        refine (HQ1.out _).mono ?_
        rintro e w1 ⟨rfl, rfl⟩
        go_wp2_with fail
        refine (HQ2.out _).mono ?_
        rintro e w1 ⟨rfl, rfl⟩
        go_wp2_with fail
        go_quiet (fail)
        go_wp2_with fail
        rw [← HQ3.out]
        refine (HOQ.out _ (HS.out.below (below_drewN (Below.refl _ _) _))).mono ?_
        rintro e w2 ⟨rfl, h2⟩
        have B2 := Lib.hid ((below_drewN (Below.refl _ _) _).trans h2)
        clear h2
        go_wp2_with fail
        rw [← HR3.out]
        refine (HOR.out _ (HS.out.below B2.out)).mono ?_
        rintro e w3 ⟨rfl, h3⟩
        have B3 := Lib.hid (B2.out.trans (h3.mono B2.out.size))
        clear h3
        go_wp2_with fail
        go_ret2
        exact ⟨rfl, B3.out⟩
set_option maxHeartbeats 6400000 in
set_option maxRecDepth 100000 in
theorem divR_far (x y : Int) (w : World) (hs : Std w) (hx : (str x.natAbs).size ≤ 9000) (hy : (str y.natAbs).size ≤ 9000) (hq : ¬ ((str x.natAbs).size ≤ 18 ∧ (str y.natAbs).size ≤ 18)) (hn : y ≠ 0) :
    Calls Tryz.prog 42 #[.string (zS x), .string (zS y)] w fun e w' => e = .returned (.tuple #[.string (zS (x.fdiv y)), .string (zS (x.fmod y))]) ∧ Below w.heap.size w w' := by
  obtain ⟨q1, b1, hq1, k1, -⟩ := quickZ_any x (by omega)
  obtain ⟨q2, b2, hq2, k2, -⟩ := quickZ_any y (by omega)
  have hbb : b1 = false ∨ (b1 = true ∧ b2 = false) := by
    cases b1
    · exact .inl rfl
    · cases b2
      · exact .inr ⟨rfl, rfl⟩
      · exact absurd ⟨(k1 rfl).1, (k2 rfl).1⟩ hq
  have HQ1 := Lib.hid hq1
  have HQ2 := Lib.hid hq2
  have HDX := Lib.hid (fun wx => digitsR_any x wx (by omega))
  have HDY := Lib.hid (fun wx => digitsR_any y wx (by omega))
  have HSX := Lib.hid (fun wx => splitN_any x.natAbs wx (by omega))
  have HSY := Lib.hid (fun wx => splitN_any y.natAbs wx (by omega))
  have HLX := Lib.hid (fun p (h : Pcs p x.natAbs) => pcs_len h hx)
  have HLY := Lib.hid (fun p (h : Pcs p y.natAbs) => pcs_len h hy)
  have hsx := fun wx => sideR_any x wx (by omega)
  have hsy := fun wx => sideR_any y wx (by omega)
  have HS := Lib.hid hs
  have HSAME := Lib.hid (fun (h : decide (x < 0) = decide (y < 0)) => fl_same hn h)
  have HDIFF := Lib.hid (fun (h : decide (x < 0) ≠ decide (y < 0)) => fl_diff hn h)
  have hyp : 0 < y.natAbs := by omega
  have hPs := sz_le (Nat.div_le_self x.natAbs y.natAbs) hx
  have hRs := sz_le (Nat.le_of_lt (Nat.mod_lt x.natAbs hyp)) hy
  have hRlt := Nat.mod_lt x.natAbs hyp
  obtain ⟨P, hP⟩ : ∃ P, P = x.natAbs / y.natAbs := ⟨_, rfl⟩
  obtain ⟨R, hR⟩ : ∃ P, P = x.natAbs % y.natAbs := ⟨_, rfl⟩
  rw [← hP] at HSAME HDIFF hPs
  rw [← hR] at HSAME HDIFF hRs hRlt
  have HYN := Lib.hid (show ((y.natAbs : Nat) : Int) = y ∨ ((y.natAbs : Nat) : Int) = -y by omega)
  have HDV := Lib.hid (fun o1 c1 p o2 c2 q wx (h1 : Pd wx o1 c1 p) (h2 : Pd wx o2 c2 q) (h3 : Pcs p x.natAbs) (h4 : Pcs q y.natAbs) => (show Calls Tryz.prog 78 #[.slice o1 p.length c1, .slice o2 q.length c2] wx fun e w' => ∃ (o : Option Addr) (c : Nat) (r : List Nat) (o2 : Option Addr) (c2 : Nat) (r2 : List Nat), e = .returned (.tuple #[.slice o r.length c, .slice o2 r2.length c2]) ∧ Pd w' o c r ∧ Pcs r P ∧ Pd w' o2 c2 r2 ∧ Pcs r2 R ∧ Below wx.heap.size wx w' by
    rw [hP, hR]; exact divideZ_any o1 c1 p o2 c2 q _ _ wx h1 h2 h3 h4 hyp (by have := pcs_len h3 hx; omega) (by have := pcs_len h4 hy; omega)))
  have HLP := Lib.hid (fun p (h : Pcs p P) => pcs_len h hPs)
  have HLR := Lib.hid (fun p (h : Pcs p R) => pcs_len h hRs)
  obtain ⟨a, ha⟩ : ∃ a, a = x.natAbs := ⟨_, rfl⟩
  obtain ⟨b, hb⟩ : ∃ a, a = y.natAbs := ⟨_, rfl⟩
  rw [← ha] at HDX HSX HLX HDV
  rw [← hb] at HDY HSY HLY HDV hRlt HDIFF
  have HB := Lib.hid hb
  obtain ⟨s, hs2⟩ : ∃ d, d = zS x := ⟨_, rfl⟩
  obtain ⟨t, ht⟩ : ∃ d, d = zS y := ⟨_, rfl⟩
  obtain ⟨ds, hds⟩ : ∃ d, d = str a := ⟨_, rfl⟩
  obtain ⟨es, hes⟩ : ∃ d, d = str b := ⟨_, rfl⟩
  have HT := Lib.hid ht
  rw [← hs2] at HQ1 HDX hsx ⊢
  rw [← ht] at HQ2 HDY hsy ⊢
  rw [← hds] at HDX HSX
  rw [← hes] at HDY HSY
  clear hq hq1 hq2 k1 k2 hs hs2 ht hds hes hx ha hb hP hR hyp hn
  by_cases hxn : x < 0
  · rw [if_pos hxn] at hsx
    by_cases hyn : y < 0
    · rw [if_pos hyn] at hsy
      obtain ⟨e1, e2⟩ := HSAME.out (by rw [decide_eq_true hxn, decide_eq_true hyn])
      rw [decide_eq_true hyn, if_pos rfl] at e2
      have HSDX := Lib.hid hsx
      have HSDY := Lib.hid hsy
      have HYS := Lib.hid hyn
      clear hsx hsy hxn hyn HSAME HDIFF
      rcases hbb with rfl | ⟨rfl, rfl⟩
      all_goals
        go_enter Tryz.func42, Tryz.ntmps42
        go_wp2_with fail
        refine (HQ1.out _).mono ?_
        rintro e w1 ⟨rfl, rfl⟩
        go_wp2_with fail
        refine (HQ2.out _).mono ?_
        rintro e w1 ⟨rfl, rfl⟩
        go_wp2_with fail
        refine (HDX.out _).mono ?_
        rintro e w1 ⟨rfl, rfl⟩
        go_wp2_with fail
        refine (HSX.out _).mono ?_
        rintro e w1 ⟨o1, c1, p, rfl, hp1, hp2, h1⟩
        have B1 := Lib.hid h1
        have P1 := Lib.hid hp1
        have P2 := Lib.hid hp2
        clear h1 hp1 hp2
        go_wp2_with fail
        refine (HDY.out _).mono ?_
        rintro e w2 ⟨rfl, rfl⟩
        go_wp2_with fail
        refine (HSY.out _).mono ?_
        rintro e w2 ⟨o2, c2, q, rfl, hp1, hp2, h2⟩
        have B2 := Lib.hid (B1.out.trans (h2.mono B1.out.size))
        have hdv := HDV.out o1 c1 p o2 c2 q w2 (P1.out.below h2) hp1 P2.out hp2
        have HDVV := Lib.hid hdv
        obtain ⟨m, hm⟩ : ∃ m, m = p.length := ⟨_, rfl⟩
        obtain ⟨n, hn⟩ : ∃ m, m = q.length := ⟨_, rfl⟩
        rw [← hm, ← hn] at HDVV
        rw [← hm, ← hn]
        clear h2 hp1 hp2 hdv hm hn
        go_wp2_with fail
        refine HDVV.out.mono ?_
        rintro e w3 ⟨o3, c3, r3, o4, c4, r4, rfl, hr31, hr32, hr41, hr42, h3⟩
        have B3 := Lib.hid (B2.out.trans (h3.mono B2.out.size))
        have hl3 := HLP.out r3 hr32
        have hl4 := HLR.out r4 hr42
        have hg3 := fun wx hw h => signedZ_any false o3 c3 r3 wx hw h (by omega)
        rw [hr32.val, if_neg (by decide)] at hg3
        have hg4 := fun wx hw h => signedZ_any true o4 c4 r4 wx hw h (by omega)
        rw [hr42.val, if_pos rfl] at hg4
        have HG3 := Lib.hid hg3
        have HG4 := Lib.hid hg4
        have R3 := Lib.hid hr31
        have R4 := Lib.hid hr41
        obtain ⟨m3, hm3⟩ : ∃ m, m = r3.length := ⟨_, rfl⟩
        obtain ⟨m4, hm4⟩ : ∃ m, m = r4.length := ⟨_, rfl⟩
        rw [← hm3] at HG3 ⊢
        rw [← hm4] at HG4 ⊢
        clear h3 hg3 hg4 hr31 hr32 hr41 hr42 hl3 hl4 hm3 hm4
        rw [e1] at HG3
        rw [e2] at HG4
        obtain ⟨qs, hqs⟩ : ∃ d, d = zS (x.fdiv y) := ⟨_, rfl⟩
        obtain ⟨rs, hrs⟩ : ∃ d, d = zS (x.fmod y) := ⟨_, rfl⟩
        rw [← hqs] at HG3
        rw [← hrs] at HG4
        have HQS := Lib.hid hqs
        have HRS := Lib.hid hrs
        clear hqs hrs e1 e2
        have hz : (rs.toList == [48]) = true ∨ (rs.toList == [48]) = false := by cases h : (rs.toList == [48]) <;> simp
        rcases hz with hz | hz
        · go_wp2_with fail
          refine (HSDX.out _).mono ?_
          rintro e w4 ⟨rfl, rfl⟩
          go_wp2_with fail
          refine (HSDY.out _).mono ?_
          rintro e w4 ⟨rfl, rfl⟩
          go_wp2_with fail
          refine (HG3.out _ (HS.out.below B3.out) R3.out).mono ?_
          rintro e w4 ⟨rfl, h4⟩
          have B4 := Lib.hid (B3.out.trans (h4.mono B3.out.size))
          have R5 := Lib.hid (R4.out.below h4)
          clear h4
          go_wp2_with fail
          refine (HSDX.out _).mono ?_
          rintro e w5 ⟨rfl, rfl⟩
          go_wp2_with fail
          refine (HG4.out _ (HS.out.below B4.out) R5.out).mono ?_
          rintro e w5 ⟨rfl, h5⟩
          have B5 := Lib.hid (B4.out.trans (h5.mono B4.out.size))
          clear h5
          go_wp2_with fail
          go_ret2
          exact ⟨by rw [← HQS.out, ← HRS.out]; rfl, B5.out⟩
        · go_wp2_with fail
          refine (HSDX.out _).mono ?_
          rintro e w4 ⟨rfl, rfl⟩
          go_wp2_with fail
          refine (HSDY.out _).mono ?_
          rintro e w4 ⟨rfl, rfl⟩
          go_wp2_with fail
          refine (HG3.out _ (HS.out.below B3.out) R3.out).mono ?_
          rintro e w4 ⟨rfl, h4⟩
          have B4 := Lib.hid (B3.out.trans (h4.mono B3.out.size))
          have R5 := Lib.hid (R4.out.below h4)
          clear h4
          go_wp2_with fail
          refine (HSDX.out _).mono ?_
          rintro e w5 ⟨rfl, rfl⟩
          go_wp2_with fail
          refine (HG4.out _ (HS.out.below B4.out) R5.out).mono ?_
          rintro e w5 ⟨rfl, h5⟩
          have B5 := Lib.hid (B4.out.trans (h5.mono B4.out.size))
          clear h5
          go_wp2_with fail
          refine (HSDX.out _).mono ?_
          rintro e w6 ⟨rfl, rfl⟩
          go_wp2_with fail
          refine (HSDY.out _).mono ?_
          rintro e w6 ⟨rfl, rfl⟩
          go_wp2_with fail
          go_ret2
          exact ⟨by rw [← HQS.out, ← HRS.out]; rfl, B5.out⟩
    · rw [if_neg hyn] at hsy
      obtain ⟨f1, f2⟩ := HDIFF.out (by rw [decide_eq_true hxn, decide_eq_false hyn]; decide)
      rw [decide_eq_false hyn, if_neg (by decide)] at f1 f2
      have HSDX := Lib.hid hsx
      have HSDY := Lib.hid hsy
      have HYS := Lib.hid hyn
      clear hsx hsy hxn hyn HSAME HDIFF
      rcases hbb with rfl | ⟨rfl, rfl⟩
      all_goals
        go_enter Tryz.func42, Tryz.ntmps42
        go_wp2_with fail
        refine (HQ1.out _).mono ?_
        rintro e w1 ⟨rfl, rfl⟩
        go_wp2_with fail
        refine (HQ2.out _).mono ?_
        rintro e w1 ⟨rfl, rfl⟩
        go_wp2_with fail
        refine (HDX.out _).mono ?_
        rintro e w1 ⟨rfl, rfl⟩
        go_wp2_with fail
        refine (HSX.out _).mono ?_
        rintro e w1 ⟨o1, c1, p, rfl, hp1, hp2, h1⟩
        have B1 := Lib.hid h1
        have P1 := Lib.hid hp1
        have P2 := Lib.hid hp2
        clear h1 hp1 hp2
        go_wp2_with fail
        refine (HDY.out _).mono ?_
        rintro e w2 ⟨rfl, rfl⟩
        go_wp2_with fail
        refine (HSY.out _).mono ?_
        rintro e w2 ⟨o2, c2, q, rfl, hp1, hp2, h2⟩
        have B2 := Lib.hid (B1.out.trans (h2.mono B1.out.size))
        have hdv := HDV.out o1 c1 p o2 c2 q w2 (P1.out.below h2) hp1 P2.out hp2
        have HDVV := Lib.hid hdv
        obtain ⟨m, hm⟩ : ∃ m, m = p.length := ⟨_, rfl⟩
        obtain ⟨n, hn⟩ : ∃ m, m = q.length := ⟨_, rfl⟩
        rw [← hm, ← hn] at HDVV
        rw [← hm, ← hn]
        clear h2 hp1 hp2 hdv hm hn
        go_wp2_with fail
        refine HDVV.out.mono ?_
        rintro e w3 ⟨o3, c3, r3, o4, c4, r4, rfl, hr31, hr32, hr41, hr42, h3⟩
        have B3 := Lib.hid (B2.out.trans (h3.mono B2.out.size))
        have hl3 := HLP.out r3 hr32
        have hl4 := HLR.out r4 hr42
        have hg3 := fun wx hw h => signedZ_any true o3 c3 r3 wx hw h (by omega)
        rw [hr32.val, if_pos rfl] at hg3
        have hg4 := fun wx hw h => signedZ_any true o4 c4 r4 wx hw h (by omega)
        rw [hr42.val, if_pos rfl] at hg4
        have HG3 := Lib.hid hg3
        have HG4 := Lib.hid hg4
        have R3 := Lib.hid hr31
        have R4 := Lib.hid hr41
        obtain ⟨m3, hm3⟩ : ∃ m, m = r3.length := ⟨_, rfl⟩
        obtain ⟨m4, hm4⟩ : ∃ m, m = r4.length := ⟨_, rfl⟩
        rw [← hm3] at HG3 ⊢
        rw [← hm4] at HG4 ⊢
        clear h3 hg3 hg4 hr31 hr32 hr41 hr42 hl3 hl4 hm3 hm4
        by_cases hR0 : R = 0
        · obtain ⟨f3, f4⟩ := f1 hR0
          rw [f3] at HG3
          rw [show -(R : Int) = x.fmod y by rw [← f4]; omega] at HG4
          have hzz : ((zS (x.fmod y)).toList == [48]) = true := by
            have h0 : x.fmod y = 0 := by rw [← f4]; omega
            rw [h0, (zF 0 (sz_lit (by decide) (by decide))).zero]; rfl
          obtain ⟨qs, hqs⟩ : ∃ d, d = zS (x.fdiv y) := ⟨_, rfl⟩
          obtain ⟨rs, hrs⟩ : ∃ d, d = zS (x.fmod y) := ⟨_, rfl⟩
          rw [← hqs] at HG3
          rw [← hrs] at HG4 hzz
          have HQS := Lib.hid hqs
          have HRS := Lib.hid hrs
          clear hqs hrs f1 f2 f3 f4 hR0
          go_wp2_with fail
          refine (HSDX.out _).mono ?_
          rintro e w4 ⟨rfl, rfl⟩
          go_wp2_with fail
          refine (HSDY.out _).mono ?_
          rintro e w4 ⟨rfl, rfl⟩
          go_wp2_with fail
          refine (HG3.out _ (HS.out.below B3.out) R3.out).mono ?_
          rintro e w4 ⟨rfl, h4⟩
          have B4 := Lib.hid (B3.out.trans (h4.mono B3.out.size))
          have R5 := Lib.hid (R4.out.below h4)
          clear h4
          go_wp2_with fail
          refine (HSDX.out _).mono ?_
          rintro e w5 ⟨rfl, rfl⟩
          go_wp2_with fail
          refine (HG4.out _ (HS.out.below B4.out) R5.out).mono ?_
          rintro e w5 ⟨rfl, h5⟩
          have B5 := Lib.hid (B4.out.trans (h5.mono B4.out.size))
          clear h5
          go_wp2_with fail
          go_ret2
          exact ⟨by rw [← HQS.out, ← HRS.out]; rfl, B5.out⟩
        · obtain ⟨f3, f4⟩ := f2 hR0
          have hzz : ((zS (-(R : Int))).toList == [48]) = false := by
            rw [(zF (-(R : Int)) (by rw [show (-(R : Int)).natAbs = R by omega]; omega)).zero, decide_eq_false (by omega)]
          have hsub := fun wx hw => subZR_any (-(P : Int)) 1 wx hw (by rw [Int.natAbs_neg, Int.natAbs_natCast]; omega) (by decide +kernel)
          rw [show -(P : Int) - 1 = x.fdiv y by rw [← f3]; omega, ← zl_1] at hsub
          have hadd := fun wx hw => addZR_any (-(R : Int)) y wx hw (by rw [show (-(R : Int)).natAbs = R by omega]; omega) (by omega)
          rw [show -(R : Int) + y = x.fmod y by rw [← f4]; have := HB.out; have := HYS.out; omega, ← HT.out] at hadd
          have HSB := Lib.hid hsub
          have HAD := Lib.hid hadd
          obtain ⟨qs, hqs⟩ : ∃ d, d = zS (x.fdiv y) := ⟨_, rfl⟩
          obtain ⟨rs, hrs⟩ : ∃ d, d = zS (x.fmod y) := ⟨_, rfl⟩
          obtain ⟨ps, hps⟩ : ∃ d, d = zS (-(P : Int)) := ⟨_, rfl⟩
          obtain ⟨ts, hts⟩ : ∃ d, d = zS (-(R : Int)) := ⟨_, rfl⟩
          rw [← hps] at HG3 HSB
          rw [← hts] at HG4 HAD hzz
          rw [← hqs] at HSB
          rw [← hrs] at HAD
          have HQS := Lib.hid hqs
          have HRS := Lib.hid hrs
          clear hqs hrs hps hts f1 f2 f3 f4 hsub hadd hR0
          go_wp2_with fail
          refine (HSDX.out _).mono ?_
          rintro e w4 ⟨rfl, rfl⟩
          go_wp2_with fail
          refine (HSDY.out _).mono ?_
          rintro e w4 ⟨rfl, rfl⟩
          go_wp2_with fail
          refine (HG3.out _ (HS.out.below B3.out) R3.out).mono ?_
          rintro e w4 ⟨rfl, h4⟩
          have B4 := Lib.hid (B3.out.trans (h4.mono B3.out.size))
          have R5 := Lib.hid (R4.out.below h4)
          clear h4
          go_wp2_with fail
          refine (HSDX.out _).mono ?_
          rintro e w5 ⟨rfl, rfl⟩
          go_wp2_with fail
          refine (HG4.out _ (HS.out.below B4.out) R5.out).mono ?_
          rintro e w5 ⟨rfl, h5⟩
          have B5 := Lib.hid (B4.out.trans (h5.mono B4.out.size))
          clear h5
          go_wp2_with fail
          refine (HSDX.out _).mono ?_
          rintro e w6 ⟨rfl, rfl⟩
          go_wp2_with fail
          refine (HSDY.out _).mono ?_
          rintro e w6 ⟨rfl, rfl⟩
          go_wp2_with fail
          refine (HSB.out _ (HS.out.below B5.out)).mono ?_
          rintro e w6 ⟨rfl, h6⟩
          have B6 := Lib.hid (B5.out.trans (h6.mono B5.out.size))
          clear h6
          go_wp2_with fail
          refine (HAD.out _ (HS.out.below B6.out)).mono ?_
          rintro e w7 ⟨rfl, h7⟩
          have B7 := Lib.hid (B6.out.trans (h7.mono B6.out.size))
          clear h7
          go_wp2_with fail
          go_ret2
          exact ⟨by rw [← HQS.out, ← HRS.out]; rfl, B7.out⟩
  · rw [if_neg hxn] at hsx
    by_cases hyn : y < 0
    · rw [if_pos hyn] at hsy
      obtain ⟨f1, f2⟩ := HDIFF.out (by rw [decide_eq_false hxn, decide_eq_true hyn]; decide)
      rw [decide_eq_true hyn, if_pos rfl] at f1 f2
      have HSDX := Lib.hid hsx
      have HSDY := Lib.hid hsy
      have HYS := Lib.hid hyn
      clear hsx hsy hxn hyn HSAME HDIFF
      rcases hbb with rfl | ⟨rfl, rfl⟩
      all_goals
        go_enter Tryz.func42, Tryz.ntmps42
        go_wp2_with fail
        refine (HQ1.out _).mono ?_
        rintro e w1 ⟨rfl, rfl⟩
        go_wp2_with fail
        refine (HQ2.out _).mono ?_
        rintro e w1 ⟨rfl, rfl⟩
        go_wp2_with fail
        refine (HDX.out _).mono ?_
        rintro e w1 ⟨rfl, rfl⟩
        go_wp2_with fail
        refine (HSX.out _).mono ?_
        rintro e w1 ⟨o1, c1, p, rfl, hp1, hp2, h1⟩
        have B1 := Lib.hid h1
        have P1 := Lib.hid hp1
        have P2 := Lib.hid hp2
        clear h1 hp1 hp2
        go_wp2_with fail
        refine (HDY.out _).mono ?_
        rintro e w2 ⟨rfl, rfl⟩
        go_wp2_with fail
        refine (HSY.out _).mono ?_
        rintro e w2 ⟨o2, c2, q, rfl, hp1, hp2, h2⟩
        have B2 := Lib.hid (B1.out.trans (h2.mono B1.out.size))
        have hdv := HDV.out o1 c1 p o2 c2 q w2 (P1.out.below h2) hp1 P2.out hp2
        have HDVV := Lib.hid hdv
        obtain ⟨m, hm⟩ : ∃ m, m = p.length := ⟨_, rfl⟩
        obtain ⟨n, hn⟩ : ∃ m, m = q.length := ⟨_, rfl⟩
        rw [← hm, ← hn] at HDVV
        rw [← hm, ← hn]
        clear h2 hp1 hp2 hdv hm hn
        go_wp2_with fail
        refine HDVV.out.mono ?_
        rintro e w3 ⟨o3, c3, r3, o4, c4, r4, rfl, hr31, hr32, hr41, hr42, h3⟩
        have B3 := Lib.hid (B2.out.trans (h3.mono B2.out.size))
        have hl3 := HLP.out r3 hr32
        have hl4 := HLR.out r4 hr42
        have hg3 := fun wx hw h => signedZ_any true o3 c3 r3 wx hw h (by omega)
        rw [hr32.val, if_pos rfl] at hg3
        have hg4 := fun wx hw h => signedZ_any false o4 c4 r4 wx hw h (by omega)
        rw [hr42.val, if_neg (by decide)] at hg4
        have HG3 := Lib.hid hg3
        have HG4 := Lib.hid hg4
        have R3 := Lib.hid hr31
        have R4 := Lib.hid hr41
        obtain ⟨m3, hm3⟩ : ∃ m, m = r3.length := ⟨_, rfl⟩
        obtain ⟨m4, hm4⟩ : ∃ m, m = r4.length := ⟨_, rfl⟩
        rw [← hm3] at HG3 ⊢
        rw [← hm4] at HG4 ⊢
        clear h3 hg3 hg4 hr31 hr32 hr41 hr42 hl3 hl4 hm3 hm4
        by_cases hR0 : R = 0
        · obtain ⟨f3, f4⟩ := f1 hR0
          rw [f3] at HG3
          rw [show (R : Int) = x.fmod y by rw [← f4]; omega] at HG4
          have hzz : ((zS (x.fmod y)).toList == [48]) = true := by
            have h0 : x.fmod y = 0 := by rw [← f4]; omega
            rw [h0, (zF 0 (sz_lit (by decide) (by decide))).zero]; rfl
          obtain ⟨qs, hqs⟩ : ∃ d, d = zS (x.fdiv y) := ⟨_, rfl⟩
          obtain ⟨rs, hrs⟩ : ∃ d, d = zS (x.fmod y) := ⟨_, rfl⟩
          rw [← hqs] at HG3
          rw [← hrs] at HG4 hzz
          have HQS := Lib.hid hqs
          have HRS := Lib.hid hrs
          clear hqs hrs f1 f2 f3 f4 hR0
          go_wp2_with fail
          refine (HSDX.out _).mono ?_
          rintro e w4 ⟨rfl, rfl⟩
          go_wp2_with fail
          refine (HSDY.out _).mono ?_
          rintro e w4 ⟨rfl, rfl⟩
          go_wp2_with fail
          refine (HG3.out _ (HS.out.below B3.out) R3.out).mono ?_
          rintro e w4 ⟨rfl, h4⟩
          have B4 := Lib.hid (B3.out.trans (h4.mono B3.out.size))
          have R5 := Lib.hid (R4.out.below h4)
          clear h4
          go_wp2_with fail
          refine (HSDX.out _).mono ?_
          rintro e w5 ⟨rfl, rfl⟩
          go_wp2_with fail
          refine (HG4.out _ (HS.out.below B4.out) R5.out).mono ?_
          rintro e w5 ⟨rfl, h5⟩
          have B5 := Lib.hid (B4.out.trans (h5.mono B4.out.size))
          clear h5
          go_wp2_with fail
          go_ret2
          exact ⟨by rw [← HQS.out, ← HRS.out]; rfl, B5.out⟩
        · obtain ⟨f3, f4⟩ := f2 hR0
          have hzz : ((zS ((R : Int))).toList == [48]) = false := by
            rw [(zF ((R : Int)) (by rw [show ((R : Int)).natAbs = R by omega]; omega)).zero, decide_eq_false (by omega)]
          have hsub := fun wx hw => subZR_any (-(P : Int)) 1 wx hw (by rw [Int.natAbs_neg, Int.natAbs_natCast]; omega) (by decide +kernel)
          rw [show -(P : Int) - 1 = x.fdiv y by rw [← f3]; omega, ← zl_1] at hsub
          have hadd := fun wx hw => addZR_any ((R : Int)) y wx hw (by rw [show ((R : Int)).natAbs = R by omega]; omega) (by omega)
          rw [show (R : Int) + y = x.fmod y by rw [← f4]; have := HB.out; have := HYS.out; omega, ← HT.out] at hadd
          have HSB := Lib.hid hsub
          have HAD := Lib.hid hadd
          obtain ⟨qs, hqs⟩ : ∃ d, d = zS (x.fdiv y) := ⟨_, rfl⟩
          obtain ⟨rs, hrs⟩ : ∃ d, d = zS (x.fmod y) := ⟨_, rfl⟩
          obtain ⟨ps, hps⟩ : ∃ d, d = zS (-(P : Int)) := ⟨_, rfl⟩
          obtain ⟨ts, hts⟩ : ∃ d, d = zS ((R : Int)) := ⟨_, rfl⟩
          rw [← hps] at HG3 HSB
          rw [← hts] at HG4 HAD hzz
          rw [← hqs] at HSB
          rw [← hrs] at HAD
          have HQS := Lib.hid hqs
          have HRS := Lib.hid hrs
          clear hqs hrs hps hts f1 f2 f3 f4 hsub hadd hR0
          go_wp2_with fail
          refine (HSDX.out _).mono ?_
          rintro e w4 ⟨rfl, rfl⟩
          go_wp2_with fail
          refine (HSDY.out _).mono ?_
          rintro e w4 ⟨rfl, rfl⟩
          go_wp2_with fail
          refine (HG3.out _ (HS.out.below B3.out) R3.out).mono ?_
          rintro e w4 ⟨rfl, h4⟩
          have B4 := Lib.hid (B3.out.trans (h4.mono B3.out.size))
          have R5 := Lib.hid (R4.out.below h4)
          clear h4
          go_wp2_with fail
          refine (HSDX.out _).mono ?_
          rintro e w5 ⟨rfl, rfl⟩
          go_wp2_with fail
          refine (HG4.out _ (HS.out.below B4.out) R5.out).mono ?_
          rintro e w5 ⟨rfl, h5⟩
          have B5 := Lib.hid (B4.out.trans (h5.mono B4.out.size))
          clear h5
          go_wp2_with fail
          refine (HSDX.out _).mono ?_
          rintro e w6 ⟨rfl, rfl⟩
          go_wp2_with fail
          refine (HSDY.out _).mono ?_
          rintro e w6 ⟨rfl, rfl⟩
          go_wp2_with fail
          refine (HSB.out _ (HS.out.below B5.out)).mono ?_
          rintro e w6 ⟨rfl, h6⟩
          have B6 := Lib.hid (B5.out.trans (h6.mono B5.out.size))
          clear h6
          go_wp2_with fail
          refine (HAD.out _ (HS.out.below B6.out)).mono ?_
          rintro e w7 ⟨rfl, h7⟩
          have B7 := Lib.hid (B6.out.trans (h7.mono B6.out.size))
          clear h7
          go_wp2_with fail
          go_ret2
          exact ⟨by rw [← HQS.out, ← HRS.out]; rfl, B7.out⟩
    · rw [if_neg hyn] at hsy
      obtain ⟨e1, e2⟩ := HSAME.out (by rw [decide_eq_false hxn, decide_eq_false hyn])
      rw [decide_eq_false hyn, if_neg (by decide)] at e2
      have HSDX := Lib.hid hsx
      have HSDY := Lib.hid hsy
      have HYS := Lib.hid hyn
      clear hsx hsy hxn hyn HSAME HDIFF
      rcases hbb with rfl | ⟨rfl, rfl⟩
      all_goals
        go_enter Tryz.func42, Tryz.ntmps42
        go_wp2_with fail
        refine (HQ1.out _).mono ?_
        rintro e w1 ⟨rfl, rfl⟩
        go_wp2_with fail
        refine (HQ2.out _).mono ?_
        rintro e w1 ⟨rfl, rfl⟩
        go_wp2_with fail
        refine (HDX.out _).mono ?_
        rintro e w1 ⟨rfl, rfl⟩
        go_wp2_with fail
        refine (HSX.out _).mono ?_
        rintro e w1 ⟨o1, c1, p, rfl, hp1, hp2, h1⟩
        have B1 := Lib.hid h1
        have P1 := Lib.hid hp1
        have P2 := Lib.hid hp2
        clear h1 hp1 hp2
        go_wp2_with fail
        refine (HDY.out _).mono ?_
        rintro e w2 ⟨rfl, rfl⟩
        go_wp2_with fail
        refine (HSY.out _).mono ?_
        rintro e w2 ⟨o2, c2, q, rfl, hp1, hp2, h2⟩
        have B2 := Lib.hid (B1.out.trans (h2.mono B1.out.size))
        have hdv := HDV.out o1 c1 p o2 c2 q w2 (P1.out.below h2) hp1 P2.out hp2
        have HDVV := Lib.hid hdv
        obtain ⟨m, hm⟩ : ∃ m, m = p.length := ⟨_, rfl⟩
        obtain ⟨n, hn⟩ : ∃ m, m = q.length := ⟨_, rfl⟩
        rw [← hm, ← hn] at HDVV
        rw [← hm, ← hn]
        clear h2 hp1 hp2 hdv hm hn
        go_wp2_with fail
        refine HDVV.out.mono ?_
        rintro e w3 ⟨o3, c3, r3, o4, c4, r4, rfl, hr31, hr32, hr41, hr42, h3⟩
        have B3 := Lib.hid (B2.out.trans (h3.mono B2.out.size))
        have hl3 := HLP.out r3 hr32
        have hl4 := HLR.out r4 hr42
        have hg3 := fun wx hw h => signedZ_any false o3 c3 r3 wx hw h (by omega)
        rw [hr32.val, if_neg (by decide)] at hg3
        have hg4 := fun wx hw h => signedZ_any false o4 c4 r4 wx hw h (by omega)
        rw [hr42.val, if_neg (by decide)] at hg4
        have HG3 := Lib.hid hg3
        have HG4 := Lib.hid hg4
        have R3 := Lib.hid hr31
        have R4 := Lib.hid hr41
        obtain ⟨m3, hm3⟩ : ∃ m, m = r3.length := ⟨_, rfl⟩
        obtain ⟨m4, hm4⟩ : ∃ m, m = r4.length := ⟨_, rfl⟩
        rw [← hm3] at HG3 ⊢
        rw [← hm4] at HG4 ⊢
        clear h3 hg3 hg4 hr31 hr32 hr41 hr42 hl3 hl4 hm3 hm4
        rw [e1] at HG3
        rw [e2] at HG4
        obtain ⟨qs, hqs⟩ : ∃ d, d = zS (x.fdiv y) := ⟨_, rfl⟩
        obtain ⟨rs, hrs⟩ : ∃ d, d = zS (x.fmod y) := ⟨_, rfl⟩
        rw [← hqs] at HG3
        rw [← hrs] at HG4
        have HQS := Lib.hid hqs
        have HRS := Lib.hid hrs
        clear hqs hrs e1 e2
        have hz : (rs.toList == [48]) = true ∨ (rs.toList == [48]) = false := by cases h : (rs.toList == [48]) <;> simp
        rcases hz with hz | hz
        · go_wp2_with fail
          refine (HSDX.out _).mono ?_
          rintro e w4 ⟨rfl, rfl⟩
          go_wp2_with fail
          refine (HSDY.out _).mono ?_
          rintro e w4 ⟨rfl, rfl⟩
          go_wp2_with fail
          refine (HG3.out _ (HS.out.below B3.out) R3.out).mono ?_
          rintro e w4 ⟨rfl, h4⟩
          have B4 := Lib.hid (B3.out.trans (h4.mono B3.out.size))
          have R5 := Lib.hid (R4.out.below h4)
          clear h4
          go_wp2_with fail
          refine (HSDX.out _).mono ?_
          rintro e w5 ⟨rfl, rfl⟩
          go_wp2_with fail
          refine (HG4.out _ (HS.out.below B4.out) R5.out).mono ?_
          rintro e w5 ⟨rfl, h5⟩
          have B5 := Lib.hid (B4.out.trans (h5.mono B4.out.size))
          clear h5
          go_wp2_with fail
          go_ret2
          exact ⟨by rw [← HQS.out, ← HRS.out]; rfl, B5.out⟩
        · go_wp2_with fail
          refine (HSDX.out _).mono ?_
          rintro e w4 ⟨rfl, rfl⟩
          go_wp2_with fail
          refine (HSDY.out _).mono ?_
          rintro e w4 ⟨rfl, rfl⟩
          go_wp2_with fail
          refine (HG3.out _ (HS.out.below B3.out) R3.out).mono ?_
          rintro e w4 ⟨rfl, h4⟩
          have B4 := Lib.hid (B3.out.trans (h4.mono B3.out.size))
          have R5 := Lib.hid (R4.out.below h4)
          clear h4
          go_wp2_with fail
          refine (HSDX.out _).mono ?_
          rintro e w5 ⟨rfl, rfl⟩
          go_wp2_with fail
          refine (HG4.out _ (HS.out.below B4.out) R5.out).mono ?_
          rintro e w5 ⟨rfl, h5⟩
          have B5 := Lib.hid (B4.out.trans (h5.mono B4.out.size))
          clear h5
          go_wp2_with fail
          refine (HSDX.out _).mono ?_
          rintro e w6 ⟨rfl, rfl⟩
          go_wp2_with fail
          refine (HSDY.out _).mono ?_
          rintro e w6 ⟨rfl, rfl⟩
          go_wp2_with fail
          go_ret2
          exact ⟨by rw [← HQS.out, ← HRS.out]; rfl, B5.out⟩
theorem divZR_any (x y : Int) (w : World) (hs : Std w) (hx : (str x.natAbs).size ≤ 9000) (hy : (str y.natAbs).size ≤ 9000) (hn : y ≠ 0) :
    Calls Tryz.prog 42 #[.string (zS x), .string (zS y)] w fun e w' => e = .returned (.tuple #[.string (zS (x.fdiv y)), .string (zS (x.fmod y))]) ∧ Below w.heap.size w w' := by
  by_cases hq : (str x.natAbs).size ≤ 18 ∧ (str y.natAbs).size ≤ 18
  · exact divR_near x y w hs hq.1 hq.2 hn
  · exact divR_far x y w hs hx hy hq hn
end Go.Proofs.YtjebddpapbopnaaGreatDoor
