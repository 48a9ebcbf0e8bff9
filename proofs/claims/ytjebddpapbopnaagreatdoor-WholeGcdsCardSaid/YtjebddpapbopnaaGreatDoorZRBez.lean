/-
  The reference of package whole: Bezout.
-/
import Derived.Test.YtjebddpapbopnaaGreatDoorZRGcd
namespace Go.Proofs.YtjebddpapbopnaaGreatDoor
open Go.RowKit

set_option maxHeartbeats 1600000 in
theorem bezR_zero (a b : Int) (w : World) (hs : Std w) (ha : (str a.natAbs).size ≤ 1000) (hb : b = 0) :
    Calls Tryz.prog 44 #[.string (zS a), .string (zS b)] w fun e w' => (∃ x y : Int, e = .returned (.tuple #[.string (str (Nat.gcd a.natAbs b.natAbs)), .string (zS x), .string (zS y)]) ∧ IsBz a b x y) ∧ Below w.heap.size w w' := by
  have hz := zero_tl b (by rw [hb]; exact Nat.le_trans (str_big (n := 1) (by decide) (by decide)) (by decide))
  rw [decide_eq_true hb] at hz
  have HA := Lib.hid (fun wx => absR_any a wx (by omega))
  have HSG := Lib.hid (fun wx => signR_any a wx (by omega))
  have HO := Lib.hid (fun wx hw => ofR2_any (sgnI a) wx hw (by rcases sgnI_ways a with ⟨_, e⟩ | ⟨_, e⟩ | ⟨_, e⟩ <;> rw [e] <;> decide) (by rcases sgnI_ways a with ⟨_, e⟩ | ⟨_, e⟩ | ⟨_, e⟩ <;> rw [e] <;> decide))
  have HS := Lib.hid hs
  have HP := Lib.hid (show IsBz a b (sgnI a) 0 from ⟨fun _ => ⟨rfl, rfl⟩, fun q => absurd hb q, by rw [hb, sgn_mul, Int.natAbs_zero, Nat.gcd_zero_right]; omega⟩)
  have HG := Lib.hid (show str (Nat.gcd a.natAbs b.natAbs) = str a.natAbs by rw [hb, Int.natAbs_zero, Nat.gcd_zero_right])
  have HZ := Lib.hid zS_zero
  obtain ⟨s, hs2⟩ : ∃ s, s = zS a := ⟨_, rfl⟩
  obtain ⟨t, ht⟩ : ∃ t, t = zS b := ⟨_, rfl⟩
  obtain ⟨g, hg⟩ : ∃ t, t = str (Nat.gcd a.natAbs b.natAbs) := ⟨_, rfl⟩
  obtain ⟨p, hp⟩ : ∃ t, t = str a.natAbs := ⟨_, rfl⟩
  obtain ⟨u, hu⟩ : ∃ t, t = zS (sgnI a) := ⟨_, rfl⟩
  obtain ⟨k, hk⟩ : ∃ k, k = sgnI a := ⟨_, rfl⟩
  have HU := Lib.hid hu
  rw [← hs2] at HA HSG ⊢
  rw [← ht] at hz ⊢
  rw [← hg, ← hp] at HG
  rw [← hg]
  rw [← hp] at HA
  rw [← hu] at HO
  rw [← hk] at HSG HO
  clear hs hb hs2 ht hg hp hu hk ha
  go_enter Tryz.func44, Tryz.ntmps44
  go_wp2_with fail
  refine (HA.out _).mono ?_
  rintro e w1 ⟨rfl, rfl⟩
  go_wp2_with fail
  refine (HSG.out _).mono ?_
  rintro e w2 ⟨rfl, rfl⟩
  go_wp2_with fail
  refine (HO.out _ HS.out).mono ?_
  rintro e w3 ⟨rfl, h3⟩
  have B3 := Lib.hid h3
  clear h3
  go_wp2_with fail
  go_ret3
  exact ⟨⟨sgnI a, 0, by rw [HG.out, ← HU.out, HZ.out]; rfl, HP.out⟩, B3.out⟩
set_option maxHeartbeats 6400000 in
set_option maxRecDepth 100000 in
theorem bezR_pos (a b : Int) (w : World) (hs : Std w) (ha : (str a.natAbs).size ≤ 1000) (hb : (str b.natAbs).size ≤ 1000) (hb0 : b ≠ 0) :
    Calls Tryz.prog 44 #[.string (zS a), .string (zS b)] w fun e w' => (∃ x y : Int, e = .returned (.tuple #[.string (str (Nat.gcd a.natAbs b.natAbs)), .string (zS x), .string (zS y)]) ∧ IsBz a b x y) ∧ Below w.heap.size w w' := by
  have hz := zero_tl b (by omega)
  rw [decide_eq_false hb0] at hz
  have HS := Lib.hid hs
  have hM : (str (a.natAbs + b.natAbs + 1)).size ≤ 1002 := zsz_succ (zsz_add ha hb (by decide)) (by decide)
  have HMZ := Lib.hid (fun (z : Int) (h : z.natAbs ≤ a.natAbs + b.natAbs + 1) => sz_le h hM)
  have E1 := Lib.hid zl_1
  have E0 := Lib.hid zS_zero
  have HB0 := Lib.hid hb0
  have HAB := Lib.hid (fun wx => absR_any b wx (by omega))
  have HSB := Lib.hid hb
  have HSA := Lib.hid ha
  obtain ⟨sa, hsa⟩ : ∃ s, s = zS a := ⟨_, rfl⟩
  obtain ⟨sb, hsb⟩ : ∃ s, s = zS b := ⟨_, rfl⟩
  have HAS := Lib.hid hsa
  have HBS := Lib.hid hsb
  rw [← hsa]
  rw [← hsb] at hz HAB ⊢
  obtain ⟨G, hG⟩ : ∃ G, G = Nat.gcd a.natAbs b.natAbs := ⟨_, rfl⟩
  have HGG := Lib.hid hG
  rw [← hG]
  clear hs ha hb hb0 hM hsa hsb hG
  go_enter Tryz.func44, Tryz.ntmps44
  go_wp2_with fail
  go_loopw [7, 8, 9, 10, 11, 12] (fun rv sv xv yv _ _ wr => ∃ r s x y : Int, rv = .string (zS r) ∧ sv = .string (zS s) ∧ xv = .string (zS x) ∧ yv = .string (zS y) ∧ Hid (BzS a b r s x y) ∧ Hid (Below w.heap.size w wr)) (fun _ sv _ _ _ _ _ => match sv with | .string u => val (magB u).data.toList | _ => 0)
  case atStart => exact ⟨a, b, 1, 0, by rw [HAS.out], by rw [HBS.out], by rw [← E1.out], by rw [E0.out], .inl ⟨rfl, rfl, rfl, rfl⟩, Below.refl _ _⟩
  case round =>
    obtain ⟨r, s, x, y, rfl, rfl, rfl, rfl, HI, HB⟩ := hrel
    by_cases hs0 : s = 0
    · subst hs0
      have i0 : ((zS 0).toList == [48]) = true := zero_tl 0 (sz_lit (by decide) (by decide))
      obtain ⟨A, f, HE⟩ := HI.out.done HB0.out
      obtain ⟨e1, e2, e3, e4, e5, e6, e7⟩ := HE
      have hAb : A ≤ b.natAbs := by rw [e4]; exact Nat.gcd_le_right _ (by have := HB0.out; omega)
      have hPb : b.natAbs / A ≤ b.natAbs := Nat.div_le_self _ _
      have hsg := fun wx => signR_any r wx (by rw [e1, sd_abs, Int.natAbs_natCast]; exact Nat.le_trans (sz_le hAb HSB.out) (by decide))
      have HNR := Lib.hid (fun wx => negR_any r wx (by rw [e1, sd_abs, Int.natAbs_natCast]; exact Nat.le_trans (sz_le hAb HSB.out) (by decide)))
      have HNX := Lib.hid (fun wx => negR_any x wx (by rw [e2, sd_abs]; exact Nat.le_trans (sz_le e5 HSB.out) (by decide)))
      have hd1 := fun wx hw => divZR_any (b.natAbs : Int) (A : Int) wx hw (by rw [Int.natAbs_natCast]; have := HSB.out; omega) (by rw [Int.natAbs_natCast]; have := sz_le hAb HSB.out; omega) (by omega)
      rw [nat_fdiv, nat_fmod, zS_of_nat, zS_of_nat, zS_of_nat, zS_of_nat] at hd1
      have hd2 := fun wx hw => divZR_any f ((b.natAbs / A : Nat) : Int) wx hw (by have := sz_le e5 HSB.out; omega) (by rw [Int.natAbs_natCast]; have := sz_le hPb HSB.out; omega) (by omega)
      rw [zS_of_nat] at hd2
      obtain ⟨X, hX⟩ : ∃ X, X = f.fmod ((b.natAbs / A : Nat) : Int) := ⟨_, rfl⟩
      rw [← hX] at hd2 e7
      have hXb := isX_lt e7
      have hmu := fun wx hw => mulZR_any a X wx hw (by have := HSA.out; omega) (by have := sz_le hXb HSB.out; omega)
      have haX : (str (a * X).natAbs).size ≤ 2000 := by rw [Int.natAbs_mul]; exact zsz_mul HSA.out (sz_le hXb HSB.out) (by decide)
      have hAsz : (str A).size ≤ 1000 := sz_le hAb HSB.out
      have hsu := fun wx hw => subZR_any (A : Int) (a * X) wx hw (by rw [Int.natAbs_natCast]; omega) (by omega)
      rw [zS_of_nat] at hsu
      have hd3 := fun wx hw => divZR_any ((A : Int) - a * X) b wx hw (by
        exact Nat.le_trans (sz_le (b := A + (a * X).natAbs) (by omega) (zsz_add (Nat.le_trans hAsz (by decide)) haX (by decide))) (by decide)) (by have := HSB.out; omega) HB0.out
      have HBZ := Lib.hid (show IsBz a b X (((A : Int) - a * X).fdiv b) by rw [e4]; exact bz_sum HB0.out e7)
      have HAG := Lib.hid (show G = A by rw [HGG.out]; exact e4.symm)
      rw [← HAS.out] at hmu
      rw [← HBS.out] at hd3
      obtain ⟨sbn, hsbn⟩ : ∃ s, s = str b.natAbs := ⟨_, rfl⟩
      have HSBN := Lib.hid hsbn
      rw [← hsbn] at hd1
      have hab := HAB
      rw [← hsbn] at hab
      obtain ⟨tA, htA⟩ : ∃ s, s = str A := ⟨_, rfl⟩
      have HTA := Lib.hid htA
      rw [← htA] at hd1 hsu
      obtain ⟨tP, htP⟩ : ∃ s, s = str (b.natAbs / A) := ⟨_, rfl⟩
      rw [← htP] at hd1 hd2
      obtain ⟨tM, htM⟩ : ∃ s, s = str (b.natAbs % A) := ⟨_, rfl⟩
      rw [← htM] at hd1
      obtain ⟨tF, htF⟩ : ∃ s, s = zS f := ⟨_, rfl⟩
      have HTF := Lib.hid htF
      rw [← htF] at hd2
      obtain ⟨tX, htX⟩ : ∃ s, s = zS X := ⟨_, rfl⟩
      have HTX := Lib.hid htX
      rw [← htX] at hd2 hmu
      obtain ⟨tY, htY⟩ : ∃ s, s = zS (f.fdiv ((b.natAbs / A : Nat) : Int)) := ⟨_, rfl⟩
      rw [← htY] at hd2
      obtain ⟨tm, htm⟩ : ∃ s, s = zS (a * X) := ⟨_, rfl⟩
      rw [← htm] at hmu hsu
      obtain ⟨td, htd⟩ : ∃ s, s = zS ((A : Int) - a * X) := ⟨_, rfl⟩
      rw [← htd] at hsu hd3
      obtain ⟨tq, htq⟩ : ∃ s, s = zS (((A : Int) - a * X).fdiv b) := ⟨_, rfl⟩
      have HTQ := Lib.hid htq
      rw [← htq] at hd3
      obtain ⟨tr, htr⟩ : ∃ s, s = zS (((A : Int) - a * X).fmod b) := ⟨_, rfl⟩
      rw [← htr] at hd3
      have HD1 := Lib.hid hd1
      have HD2 := Lib.hid hd2
      have HD3 := Lib.hid hd3
      have HMU := Lib.hid hmu
      have HSU := Lib.hid hsu
      rcases sd_ways b with ⟨hbn, hsd⟩ | ⟨hbn, hsd⟩
      · have hrA : r = -(A : Int) := by rw [e1, hsd]; omega
        have hxf : x = -f := by rw [e2, hsd]; omega
        have hs1 : sgnI r = -1 := by rcases sgnI_ways r with ⟨q, e⟩ | ⟨q, e⟩ | ⟨q, e⟩ <;> omega
        rw [hs1] at hsg
        have HSG := Lib.hid hsg
        rw [show -r = (A : Int) by omega, zS_of_nat, ← HTA.out] at HNR
        rw [show -x = f by omega, ← HTF.out] at HNX
        obtain ⟨rs, hrs⟩ : ∃ s, s = zS r := ⟨_, rfl⟩
        obtain ⟨xs, hxs⟩ : ∃ s, s = zS x := ⟨_, rfl⟩
        rw [← hrs] at HSG HNR ⊢
        rw [← hxs] at HNX ⊢
        clear hsg hd1 hd2 hd3 hmu hsu hsbn htA htP htM htF htX htY htm htd htq htr hX hrs hxs hrA hxf hs1 hbn hsd e1 e2 e3 e4 e5 e6 e7 hAb hPb hXb haX hAsz HI
        go_wp2_with fail
        refine (HSG.out _).mono ?_
        rintro e w2 ⟨rfl, rfl⟩
        go_wp2_with fail
        refine (HNR.out _).mono ?_
        rintro e w3 ⟨rfl, rfl⟩
        go_wp2_with fail
        refine (HNX.out _).mono ?_
        rintro e w4 ⟨rfl, rfl⟩
        go_wp2_with fail
        refine (hab.out _).mono ?_
        rintro e w5 ⟨rfl, rfl⟩
        go_wp2_with fail
        refine (HD1.out _ (HS.out.below HB.out)).mono ?_
        rintro e w6 ⟨rfl, h6⟩
        have B6 := Lib.hid (HB.out.trans (h6.mono HB.out.size))
        clear h6
        go_wp2_with fail
        refine (HD2.out _ (HS.out.below B6.out)).mono ?_
        rintro e w7 ⟨rfl, h7⟩
        have B7 := Lib.hid (B6.out.trans (h7.mono B6.out.size))
        clear h7
        go_wp2_with fail
        refine (HMU.out _ (HS.out.below B7.out)).mono ?_
        rintro e w8 ⟨rfl, h8⟩
        have B8 := Lib.hid (B7.out.trans (h8.mono B7.out.size))
        clear h8
        go_wp2_with fail
        refine (HSU.out _ (HS.out.below B8.out)).mono ?_
        rintro e w9 ⟨rfl, h9⟩
        have B9 := Lib.hid (B8.out.trans (h9.mono B8.out.size))
        clear h9
        go_wp2_with fail
        refine (HD3.out _ (HS.out.below B9.out)).mono ?_
        rintro e w10 ⟨rfl, h10⟩
        have B10 := Lib.hid (B9.out.trans (h10.mono B9.out.size))
        clear h10
        go_wp2_with fail
        go_ret3
        exact ⟨⟨X, ((A : Int) - a * X).fdiv b, by rw [HAG.out, ← HTA.out, ← HTX.out, ← HTQ.out]; rfl, HBZ.out⟩, B10.out⟩
      · have hrA : r = (A : Int) := by rw [e1, hsd]; omega
        have hxf : x = f := by rw [e2, hsd]; omega
        have hs1 : sgnI r = 1 := by rcases sgnI_ways r with ⟨q, e⟩ | ⟨q, e⟩ | ⟨q, e⟩ <;> omega
        rw [hs1] at hsg
        rw [hrA, zS_of_nat, ← HTA.out] at hsg
        have HSG := Lib.hid hsg
        rw [hrA, hxf, zS_of_nat, ← HTA.out, ← HTF.out]
        clear hsg hd1 hd2 hd3 hmu hsu hsbn htA htP htM htF htX htY htm htd htq htr hX hrA hxf hs1 hbn hsd e1 e2 e3 e4 e5 e6 e7 hAb hPb hXb haX hAsz HI HNR HNX
        go_wp2_with fail
        refine (HSG.out _).mono ?_
        rintro e w2 ⟨rfl, rfl⟩
        go_wp2_with fail
        refine (hab.out _).mono ?_
        rintro e w3 ⟨rfl, rfl⟩
        go_wp2_with fail
        refine (HD1.out _ (HS.out.below HB.out)).mono ?_
        rintro e w4 ⟨rfl, h4⟩
        have B4 := Lib.hid (HB.out.trans (h4.mono HB.out.size))
        clear h4
        go_wp2_with fail
        refine (HD2.out _ (HS.out.below B4.out)).mono ?_
        rintro e w5 ⟨rfl, h5⟩
        have B5 := Lib.hid (B4.out.trans (h5.mono B4.out.size))
        clear h5
        go_wp2_with fail
        refine (HMU.out _ (HS.out.below B5.out)).mono ?_
        rintro e w6 ⟨rfl, h6⟩
        have B6 := Lib.hid (B5.out.trans (h6.mono B5.out.size))
        clear h6
        go_wp2_with fail
        refine (HSU.out _ (HS.out.below B6.out)).mono ?_
        rintro e w7 ⟨rfl, h7⟩
        have B7 := Lib.hid (B6.out.trans (h7.mono B6.out.size))
        clear h7
        go_wp2_with fail
        refine (HD3.out _ (HS.out.below B7.out)).mono ?_
        rintro e w8 ⟨rfl, h8⟩
        have B8 := Lib.hid (B7.out.trans (h8.mono B7.out.size))
        clear h8
        go_wp2_with fail
        go_ret3
        exact ⟨⟨X, ((A : Int) - a * X).fdiv b, by rw [HAG.out, ← HTA.out, ← HTX.out, ← HTQ.out]; rfl, HBZ.out⟩, B8.out⟩
    · have i0 : ((zS s).toList == [48]) = false := by
        have hq := (HI.out.step HB0.out hs0).fs
        rw [zero_tl s (Nat.le_trans (HMZ.out s hq) (by decide)), decide_eq_false hs0]
      obtain ⟨g1, g2, g3, g4, g5, g6, g7, g8, g9⟩ := HI.out.step HB0.out hs0
      have HDM := Lib.hid (fun wx hw => divZR_any r s wx hw (Nat.le_trans (HMZ.out _ g2) (by decide)) (Nat.le_trans (HMZ.out _ g3) (by decide)) hs0)
      have HMU := Lib.hid (fun wx hw => mulZR_any (r.fdiv s) y wx hw (Nat.le_trans (HMZ.out _ g6) (by decide)) (Nat.le_trans (HMZ.out _ g5) (by decide)))
      have HSU := Lib.hid (fun wx hw => subZR_any x (r.fdiv s * y) wx hw (Nat.le_trans (HMZ.out _ g4) (by decide)) (Nat.le_trans (HMZ.out _ g7) (by decide)))
      have HI2 := Lib.hid g1
      have HLT := Lib.hid (show val (magB (zS (r.fmod s))).data.toList < val (magB (zS s)).data.toList by rw [magB_zS, magB_zS, val_str, val_str]; exact g9)
      obtain ⟨rs, hrs⟩ : ∃ t, t = zS r := ⟨_, rfl⟩
      obtain ⟨ss, hss⟩ : ∃ t, t = zS s := ⟨_, rfl⟩
      obtain ⟨xs, hxs⟩ : ∃ t, t = zS x := ⟨_, rfl⟩
      obtain ⟨ys, hys⟩ : ∃ t, t = zS y := ⟨_, rfl⟩
      obtain ⟨qs, hqs⟩ : ∃ t, t = zS (r.fdiv s) := ⟨_, rfl⟩
      obtain ⟨ms, hms⟩ : ∃ t, t = zS (r.fmod s) := ⟨_, rfl⟩
      obtain ⟨ps, hps⟩ : ∃ t, t = zS (r.fdiv s * y) := ⟨_, rfl⟩
      obtain ⟨ds, hds⟩ : ∃ t, t = zS (x - r.fdiv s * y) := ⟨_, rfl⟩
      have HSS2 := Lib.hid hss
      have HYS := Lib.hid hys
      have HMS := Lib.hid hms
      have HDS := Lib.hid hds
      rw [← hrs] at HDM ⊢
      rw [← hss] at HDM HLT i0 ⊢
      rw [← hqs] at HDM HMU
      rw [← hms] at HDM HLT
      rw [← hys] at HMU ⊢
      rw [← hps] at HMU HSU
      rw [← hxs] at HSU ⊢
      rw [← hds] at HSU
      clear hrs hss hxs hys hqs hms hps hds g1 g2 g3 g4 g5 g6 g7 g8 g9 HI hs0
      go_wp2_with fail
      refine (HDM.out _ (HS.out.below HB.out)).mono ?_
      rintro e w2 ⟨rfl, h2⟩
      have B2 := Lib.hid (HB.out.trans (h2.mono HB.out.size))
      clear h2
      go_wp2_with fail
      refine (HMU.out _ (HS.out.below B2.out)).mono ?_
      rintro e w3 ⟨rfl, h3⟩
      have B3 := Lib.hid (B2.out.trans (h3.mono B2.out.size))
      clear h3
      go_wp2_with fail
      refine (HSU.out _ (HS.out.below B3.out)).mono ?_
      rintro e w4 ⟨rfl, h4⟩
      have B4 := Lib.hid (B3.out.trans (h4.mono B3.out.size))
      clear h4
      go_wp2_with fail
      refine ⟨⟨_, _, _, _, by rw [HSS2.out], by rw [HMS.out], by rw [HYS.out], by rw [HDS.out], HI2, B4.out⟩, ?_⟩
      exact HLT.out
theorem bezR_any (a b : Int) (w : World) (hs : Std w) (ha : (str a.natAbs).size ≤ 1000) (hb : (str b.natAbs).size ≤ 1000) :
    Calls Tryz.prog 44 #[.string (zS a), .string (zS b)] w fun e w' => (∃ x y : Int, e = .returned (.tuple #[.string (str (Nat.gcd a.natAbs b.natAbs)), .string (zS x), .string (zS y)]) ∧ IsBz a b x y) ∧ Below w.heap.size w w' := by
  by_cases h : b = 0
  · exact bezR_zero a b w hs ha h
  · exact bezR_pos a b w hs ha hb h
end Go.Proofs.YtjebddpapbopnaaGreatDoor
