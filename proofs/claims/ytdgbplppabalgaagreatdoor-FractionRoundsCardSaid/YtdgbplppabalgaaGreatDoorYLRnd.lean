/-
  The law FractionRounds: the walk.
-/
import Derived.Test.YtdgbplppabalgaaGreatDoorL29
import Derived.Test.YtdgbplppabalgaaGreatDoorL36
import Derived.Test.YtdgbplppabalgaaGreatDoorL34
import Derived.Test.YtdgbplppabalgaaGreatDoorL39
import Derived.Test.YtdgbplppabalgaaGreatDoorL30
import Derived.Test.YtdgbplppabalgaaGreatDoorJ20
import Derived.Test.YtdgbplppabalgaaGreatDoorL28
namespace Go.Proofs.YtdgbplppabalgaaGreatDoor
open Go.RowKit Batch

theorem near_low (m : Int) {e : Nat} (he : 0 < e) : (lowN m e + lowN m e + (lowD m e : Int)).fdiv ((lowD m e : Int) + (lowD m e : Int)) = (m + m + e).fdiv ((e : Int) + e) := by
  have hE := (low_right m he).pos
  have h1 := low_parts m e
  obtain ⟨g, hg⟩ : ∃ g, g = Nat.gcd m.natAbs e := ⟨_, rfl⟩
  rw [← hg] at h1
  obtain ⟨N, hN⟩ : ∃ N, N = lowN m e := ⟨_, rfl⟩
  obtain ⟨E, hE2⟩ : ∃ E, E = lowD m e := ⟨_, rfl⟩
  rw [← hN, ← hE2] at h1
  rw [← hE2] at hE
  rw [← hN, ← hE2]
  have h2 := Int.fmod_add_mul_fdiv (N + N + (E : Int)) ((E : Int) + E)
  have h3 := fmod_pos (N + N + (E : Int)) (y := (E : Int) + E) (by omega)
  obtain ⟨q, hq⟩ : ∃ q, q = (N + N + (E : Int)).fdiv ((E : Int) + E) := ⟨_, rfl⟩
  obtain ⟨r, hr⟩ : ∃ r, r = (N + N + (E : Int)).fmod ((E : Int) + E) := ⟨_, rfl⟩
  rw [← hq, ← hr] at h2
  rw [← hr] at h3
  rw [← hq]
  have hg0 : 0 < g := by
    rcases Nat.eq_zero_or_pos g with h | h
    · rw [h, Nat.zero_mul] at h1; omega
    · exact h
  have hg1 : (0 : Int) < g := by omega
  have e1 : (e : Int) = g * E := by rw [h1.2]; exact Int.natCast_mul g E
  have h5 : 0 ≤ (g : Int) * r := Int.mul_nonneg (by omega) h3.1
  have h6 : (g : Int) * r < g * ((E : Int) + E) := Int.mul_lt_mul_of_pos_left h3.2 hg1
  have h7 : (g : Int) * ((E : Int) + E) = g * E + g * E := by grind
  have h := fl_unique (x := m + m + e) (y := (e : Int) + e) (q := q) (r := (g : Int) * r) (by rw [h1.1, e1]; grind) (.inl ⟨h5, by rw [e1]; omega⟩)
  exact h.1
set_option maxHeartbeats 12800000 in
set_option maxRecDepth 100000 in
theorem lawRounds_any (s t : ByteArray) (g : Int) (w : World) (hs : Stf w) (hg : (Lit.int .i64 g).wf = true) :
    Calls Tryz.prog 10 #[ratV s t, .int .i64 g] w fun e w' => e = .returned (.bool true) ∧ Below w.heap.size w w' := by
  have hbg := bounds_i64 hg
  have HS := Lib.hid hs
  have HK := Lib.hid (fun wx (hw : Stf wx) => knownF_any wx hw)
  have HF := Lib.hid (fun g wx (hw : Stf wx) (hr : Rw wx g [s, t]) => fits1_any s t g wx hw hr)
  have HZ := Lib.hid (Bi.new w s t)
  cases hok : okF s t with
  | false =>
    rw [hok] at HF
    clear hok hs hg hbg
    go_enter Tryz.func10, Tryz.ntmps10
    go_upto_region 1 with fail
    obtain ⟨W0, hW0⟩ : ∃ W0, W0 = w.alloc (ratO s t) := ⟨_, rfl⟩
    rw [← hW0] at HZ ⊢
    clear hW0
    have HBW := Lib.hid HZ.out.below
    have HSB := Lib.hid (show ∀ wx, Below W0.heap.size W0 wx → Stf wx from fun wx hx => HS.out.below (HBW.out.trans (hx.mono HBW.out.size)))
    have HC := Lib.hid (show ∀ wx, Below W0.heap.size W0 wx → wx.cell? ⟨w.heap.size, 0, none⟩ = some (.string s) ∧ wx.cell? ⟨w.heap.size, 1, none⟩ = some (.string t) from fun wx hx => ⟨(HZ.out.to hx).box.num, (HZ.out.to hx).box.den⟩)
    have Y0 := Lib.hid (Below.refl W0.heap.size W0)
    clear HZ
    obtain ⟨c0, c1⟩ := HC.out _ Y0.out
    go_wp2_with fail
    refine (HK.out _ (HSB.out _ Y0.out)).mono ?_
    rintro e w1 ⟨rfl, b⟩
    have Y1 := Lib.hid (Y0.out.trans (b.mono Y0.out.size))
    clear b
    clear c0 c1
    obtain ⟨c0, c1⟩ := HC.out _ Y1.out
    go_wp2_with fail
    have ZA := Lib.hid (Y1.out.alloc Y1.out.size (.cells #[.string s, .string t] 24))
    refine (HF.out _ _ ?hss ?hrw).mono ?_
    case hss => exact HSB.out _ ZA.out
    case hrw => exact Rw.new1 w1 s t 24
    rintro e w2 ⟨rfl, b⟩
    have Y2 := Lib.hid (ZA.out.trans (b.mono ZA.out.size))
    clear b ZA
    clear c0 c1
    obtain ⟨c0, c1⟩ := HC.out _ Y2.out
    go_wp2_with fail
    refine (HK.out _ (HSB.out _ Y2.out)).mono ?_
    rintro e w3 ⟨rfl, b⟩
    have Y3 := Lib.hid (Y2.out.trans (b.mono Y2.out.size))
    clear b
    clear c0 c1
    go_wp2_with fail
    go_ret
    exact ⟨rfl, HBW.out.trans (Y3.out.mono HBW.out.size)⟩
  | true =>
    rw [hok] at HF
    obtain ⟨n, d, hA⟩ := ok_parts hok
    have a1 := hA.sn
    have a2 := hA.sd
    have p1 := hA.pos
    have hbn : n.natAbs < 1000000000000000000000000000000000000000000000000000000000000 ∧ d.natAbs < 1000000000000000000000000000000000000000000000000000000000000 := by
      unfold okF at hok
      rw [Bool.and_eq_true, Bool.not_eq_true'] at hok
      have hz := okF_size hok.1
      have key : ∀ z : Int, (zS z).size ≤ 60 → z.natAbs < 1000000000000000000000000000000000000000000000000000000000000 := fun z h => by
        have h1 := mag_le (zS z)
        rw [magB_zS, str_size] at h1
        have h0 := Lib.lt_pow_nDigits z.natAbs
        have h2 := Nat.lt_of_lt_of_le h0 (Nat.pow_le_pow_right (n := 10) (by decide) (Nat.le_trans h1 h))
        have e : (10 : Nat) ^ 60 = 1000000000000000000000000000000000000000000000000000000000000 := by decide
        rw [e] at h2; exact h2
      exact ⟨key n (by rw [← hA.s]; exact hz.1), key d (by rw [← hA.t]; exact hz.2)⟩
    have hdn : (d.natAbs : Int) = d := by omega
    have et : str d.natAbs = zS d := (zS_pos (by omega)).symm
    have HFLR := Lib.hid (fun wx (hw : Stf wx) => rflY_any n d wx hw.std (by omega) (by omega) p1)
    have HNG := Lib.hid (fun wx (hw : Stf wx) => negY_any n (zS d) wx hw.std (by omega))
    have HFL2 := Lib.hid (fun wx (hw : Stf wx) => rflY_any (-n) d wx hw.std (by rw [Int.natAbs_neg]; omega) (by omega) p1)
    have b1 := fdivB n p1
    have b2 := fdivB (-n) p1
    rw [Int.natAbs_neg] at b2
    have z1 : (str (n.fdiv d).natAbs).size ≤ 80 := big80 (by omega)
    have z2 : (str ((-n).fdiv d).natAbs).size ≤ 80 := big80 (by omega)
    have HT1 := Lib.hid (fun wx => toY_any ((-n).fdiv d) wx (by omega))
    have HN1 := Lib.hid (fun b o c L wx (h : Wh wx b o c L ((-n).fdiv d)) => negWY_any b o c L ((-n).fdiv d) wx h)
    have HFR := Lib.hid (fun b o c L wx (hw : Std wx) (h : Wh wx b o c L (-((-n).fdiv d))) => fromY_any b o c L (-((-n).fdiv d)) wx hw h (h.pcs.len_le (n := 100000) (by rw [Int.natAbs_neg]; omega)))
    have HSU := fun wx (hw : Stf wx) => subY_any n d (n.fdiv d) 1 wx hw.std (by omega) (by omega) (by omega) (Nat.le_trans (str_big (n := 1) (by decide) (by decide)) (by decide)) p1 (by decide)
    have ef : n * 1 + -(n.fdiv d) * d = n.fmod d := by have h := Int.fmod_def n d; grind
    have hrr := low_self (rest_right (p := (n, d.natAbs)) hA.fr)
    change lowN (n.fmod (d.natAbs : Int)) d.natAbs = n.fmod (d.natAbs : Int) ∧ lowD (n.fmod (d.natAbs : Int)) d.natAbs = d.natAbs at hrr
    rw [hdn] at hrr
    rw [ef, Int.mul_one, hrr.1, hrr.2, et, show zS 1 = ⟨#[49]⟩ from zS_1] at HSU
    have HFLF := Lib.hid (fun wx (hw : Stf wx) => floorF_any n d wx hw.std (by omega) (by omega) (by omega))
    have HCE := Lib.hid (fun wx (hw : Stf wx) => ceilF_any n d wx hw.std (by omega) (by omega) (by omega) (by omega))
    have HNE := Lib.hid (fun wx (hw : Stf wx) => nearF_any n d wx hw.std (by omega) (by omega) p1)
    have HNR := Lib.hid (fun wx (hw : Stf wx) => rnrY_any n d wx hw.std (by omega) (by omega) p1)
    have HRE := Lib.hid (fun wx (hw : Stf wx) => restF_any n d wx hw.std (by omega) (by omega) (by omega))
    have HSU := Lib.hid HSU
    clear ef hrr b1 b2 z1 z2
    have key : ∃ (ys yt : ByteArray) (ee : Int), (∀ wx, Stf wx → Calls Tryz.prog 59 #[ratV s t, .int .i64 g] wx fun e w' => e = .returned (.tuple #[ratV ys yt, .int .i64 ee]) ∧ Below wx.heap.size wx w') ∧ ((ee = 3 ∧ ys = ⟨#[]⟩ ∧ yt = ⟨#[]⟩ ∧ (decide (g < 1) = true ∨ (decide (g < 1) = false ∧ decide (g > 1000000) = true))) ∨ (ee = 0 ∧ decide (g < 1) = false ∧ decide (g > 1000000) = false ∧ ∃ (gs gt ms mt km : ByteArray) (kk : Int), (∀ wx, Stf wx → Calls Tryz.prog 23 #[.int .i64 g, .int .i64 1] wx fun e w' => e = .returned (ratV gs gt) ∧ Below wx.heap.size wx w') ∧ (∀ wx, Stf wx → Calls Tryz.prog 43 #[ratV s t, ratV gs gt] wx fun e w' => e = .returned (ratV ms mt) ∧ Below wx.heap.size wx w') ∧ (∀ wx, Stf wx → Calls Tryz.prog 57 #[ratV ms mt] wx fun e w' => e = .returned (.string km) ∧ Below wx.heap.size wx w') ∧ (∀ wx, Calls Tryz.prog 25 #[.string km] wx fun e w' => (∃ (b : Bool) (o : Option Addr) (c : Nat) (L : List Nat), e = .returned (whV b o c L) ∧ Wf wx.heap.size w' b o c L kk) ∧ Below wx.heap.size wx w') ∧ (∀ wx, Std wx → Calls Tryz.prog 60 #[.int .i64 g] wx fun e w' => (∃ (b : Bool) (o : Option Addr) (c : Nat) (L : List Nat), e = .returned (whV b o c L) ∧ Wf wx.heap.size w' b o c L g) ∧ Below wx.heap.size wx w') ∧ (∀ b1 o1 c1 L1 b2 o2 c2 L2 wx, Std wx → Wh wx b1 o1 c1 L1 kk → Wh wx b2 o2 c2 L2 g → Calls Tryz.prog 24 #[whV b1 o1 c1 L1, whV b2 o2 c2 L2] wx fun e w' => e = .returned (ratV ys yt) ∧ Below wx.heap.size wx w'))) := by
      by_cases hr : 1 ≤ g ∧ g ≤ 1000000
      · have q1 : decide (g < 1) = false := decide_eq_false (by omega)
        have q2 : decide (g > 1000000) = false := decide_eq_false (by omega)
        have hm := grid_mul (n := n) (g := g) (by omega) hr.1 hr.2
        have hkb := fdivB (n * g + n * g + d) (y := d + d) (by omega)
        have zk : (str ((n * g + n * g + d).fdiv (d + d)).natAbs).size ≤ 80 := big80 (by omega)
        have HRO := fun wx (hw : Stf wx) => roundF_yes n d g wx hw.std (by omega) (by omega) p1 hr.1 hr.2 (by omega)
        have HFG := fun wx (hw : Stf wx) => fracY_any g 1 wx hw.std (by omega) (by omega) (by decide) (by decide) (by decide)
        have zg : (str g.natAbs).size ≤ 80 := big80 (by omega)
        have hl1 : newN g 1 = g ∧ newD g 1 = 1 := by
          unfold newN newD
          rw [if_neg (by decide), if_neg (by decide)]
          exact low_self (n := g) (d := 1) ⟨Nat.one_pos, Nat.gcd_one_right _⟩
        rw [hl1.1, hl1.2] at HFG
        have HMG := fun wx (hw : Stf wx) => mulY_any n d g 1 wx hw.std (by omega) (by omega) (by omega) (Nat.le_trans (str_big (n := 1) (by decide) (by decide)) (by decide)) (by omega) (by decide)
        have hn2 : newN (n * g) (d * 1) = lowN (n * g) d.natAbs ∧ newD (n * g) (d * 1) = lowD (n * g) d.natAbs := by
          rw [Int.mul_one]; unfold newN newD
          rw [if_neg (by omega), if_neg (by omega)]; exact ⟨rfl, rfl⟩
        rw [hn2.1, hn2.2, show zS 1 = str 1 from (sd 1).symm ▸ rfl] at HMG
        have hpos := (low_right (n * g) (d := d.natAbs) (by omega)).pos
        have zn : (str (n * g).natAbs).size ≤ 80 := big80 (by omega)
        have zd : (str d.natAbs).size ≤ 80 := big80 (by omega)
        have HNM := fun wx (hw : Stf wx) => rnrY_any (lowN (n * g) d.natAbs) ((lowD (n * g) d.natAbs : Nat) : Int) wx hw.std (Nat.le_trans (zsz_le zn (lowN_nat _ _)) (by omega)) (by rw [Int.natAbs_natCast]; exact Nat.le_trans (zsz_le zd (Nat.div_le_self _ _)) (by omega)) (by omega)
        rw [near_low (n * g) (e := d.natAbs) (by omega), hdn, sd] at HNM
        have HTK := (fun wx => toY_any ((n * g + n * g + d).fdiv (d + d)) wx (by omega))
        have HOG := (fun wx (hw : Std wx) => ofWY_any g wx hw (by omega) (by omega))
        have HMK := (fun b1 o1 c1 L1 b2 o2 c2 L2 wx (hw : Std wx) (w1 : Wh wx b1 o1 c1 L1 ((n * g + n * g + d).fdiv (d + d))) (w2 : Wh wx b2 o2 c2 L2 g) => makeY_any b1 o1 c1 L1 ((n * g + n * g + d).fdiv (d + d)) b2 o2 c2 L2 g wx hw w1 w2 (by omega) (w1.pcs.len_le (n := 20000) (by omega)) (w2.pcs.len_le (n := 20000) (by omega)))
        obtain ⟨kk, hkk⟩ : ∃ k, k = (n * g + n * g + d).fdiv (d + d) := ⟨_, rfl⟩
        rw [← hkk] at HRO HNM HTK HMK
        have hny : newS kk g = zS (newN kk g) ∧ newT kk g = str (newD kk g) := by
          unfold newS newT
          rw [if_neg (by omega), if_neg (by omega)]; exact ⟨rfl, rfl⟩
        rw [hny.1, hny.2] at HRO
        rw [← hA.s, ← hA.t] at HRO HMG
        exact ⟨_, _, _, HRO, .inr ⟨rfl, q1, q2, _, _, _, _, _, _, HFG, HMG, HNM, HTK, HOG, HMK⟩⟩
      · refine ⟨_, _, _, fun wx _ => roundF_no s t g wx (by omega), .inl ⟨rfl, rfl, rfl, ?_⟩⟩
        by_cases h : g < 1
        · exact .inl (decide_eq_true h)
        · exact .inr ⟨decide_eq_false h, decide_eq_true (by omega)⟩
    obtain ⟨ys, yt, ee, HRO, RX⟩ := key
    have HRO := Lib.hid HRO
    have RX := Lib.hid RX
    obtain ⟨fl, hfl⟩ : ∃ s, s = zS (n.fdiv d) := ⟨_, rfl⟩
    obtain ⟨cf, hcf⟩ : ∃ s, s = zS ((-n).fdiv d) := ⟨_, rfl⟩
    obtain ⟨ce, hce⟩ : ∃ s, s = zS (-((-n).fdiv d)) := ⟨_, rfl⟩
    obtain ⟨rs, hrs⟩ : ∃ s, s = zS (n.fmod d) := ⟨_, rfl⟩
    obtain ⟨ne, hne⟩ : ∃ s, s = zS ((n + n + d).fdiv (d + d)) := ⟨_, rfl⟩
    obtain ⟨ns, hns⟩ : ∃ s, s = zS (-n) := ⟨_, rfl⟩
    rw [← hA.s, ← hA.t, ← hfl] at HFLR HFLF
    rw [← hA.s, ← hA.t, ← hns] at HNG
    rw [← hns, ← hA.t, ← hcf] at HFL2
    rw [← hcf] at HT1
    rw [← hce] at HFR
    rw [← hA.s, ← hA.t, ← hce] at HCE
    rw [← hA.s, ← hA.t, ← hfl, ← hrs] at HSU
    rw [← hA.s, ← hA.t, ← hne] at HNE HNR
    rw [← hA.s, ← hA.t, ← hrs] at HRE
    clear hok hs hg hbg hA a1 a2 p1 hbn hdn et hfl hcf hce hrs hne hns
    go_enter Tryz.func10, Tryz.ntmps10
    go_upto_region 1 with fail
    obtain ⟨W0, hW0⟩ : ∃ W0, W0 = w.alloc (ratO s t) := ⟨_, rfl⟩
    rw [← hW0] at HZ ⊢
    clear hW0
    have HBW := Lib.hid HZ.out.below
    have HSB := Lib.hid (show ∀ wx, Below W0.heap.size W0 wx → Stf wx from fun wx hx => HS.out.below (HBW.out.trans (hx.mono HBW.out.size)))
    have HC := Lib.hid (show ∀ wx, Below W0.heap.size W0 wx → wx.cell? ⟨w.heap.size, 0, none⟩ = some (.string s) ∧ wx.cell? ⟨w.heap.size, 1, none⟩ = some (.string t) from fun wx hx => ⟨(HZ.out.to hx).box.num, (HZ.out.to hx).box.den⟩)
    have Y0 := Lib.hid (Below.refl W0.heap.size W0)
    clear HZ
    obtain ⟨c0, c1⟩ := HC.out _ Y0.out
    go_wp2_with fail
    refine (HK.out _ (HSB.out _ Y0.out)).mono ?_
    rintro e w1 ⟨rfl, b⟩
    have Y1 := Lib.hid (Y0.out.trans (b.mono Y0.out.size))
    clear b
    clear c0 c1
    obtain ⟨c0, c1⟩ := HC.out _ Y1.out
    go_wp2_with fail
    have ZA := Lib.hid (Y1.out.alloc Y1.out.size (.cells #[.string s, .string t] 24))
    refine (HF.out _ _ ?hss ?hrw).mono ?_
    case hss => exact HSB.out _ ZA.out
    case hrw => exact Rw.new1 w1 s t 24
    rintro e w2 ⟨rfl, b⟩
    have Y2 := Lib.hid (ZA.out.trans (b.mono ZA.out.size))
    clear b ZA
    clear c0 c1
    obtain ⟨c0, c1⟩ := HC.out _ Y2.out
    go_wp2_with fail
    refine (HFLR.out _ (HSB.out _ Y2.out)).mono ?_
    rintro e w3 ⟨rfl, b⟩
    have Y3 := Lib.hid (Y2.out.trans (b.mono Y2.out.size))
    clear b
    clear c0 c1
    obtain ⟨c0, c1⟩ := HC.out _ Y3.out
    go_wp2_with fail
    refine (HNG.out _ (HSB.out _ Y3.out)).mono ?_
    rintro e w4 ⟨rfl, b⟩
    have Y4 := Lib.hid (Y3.out.trans (b.mono Y3.out.size))
    clear b
    clear c0 c1
    obtain ⟨c0, c1⟩ := HC.out _ Y4.out
    go_wp2_with fail
    refine (HFL2.out _ (HSB.out _ Y4.out)).mono ?_
    rintro e w5 ⟨rfl, b⟩
    have Y5 := Lib.hid (Y4.out.trans (b.mono Y4.out.size))
    clear b
    clear c0 c1
    obtain ⟨c0, c1⟩ := HC.out _ Y5.out
    go_wp2_with fail
    refine (HT1.out _).mono ?_
    rintro e w6 ⟨⟨bA, oA, cA, LA, rfl, hx⟩, b⟩
    have Y6 := Lib.hid (Y5.out.trans (b.mono Y5.out.size))
    have WA := Lib.hid hx.wh
    clear b hx
    clear c0 c1
    go_wp2_with fail
    refine (HN1.out bA oA cA LA _ WA.out).mono ?_
    rintro e w7 ⟨⟨bB, LB, rfl, hx⟩, b⟩
    have Y7 := Lib.hid (Y6.out.trans (b.mono Y6.out.size))
    have WB := Lib.hid hx
    clear b hx WA
    go_wp2_with fail
    refine (HFR.out bB oA cA LB _ (HSB.out _ Y7.out).std WB.out).mono ?_
    rintro e w8 ⟨rfl, b⟩
    have Y8 := Lib.hid (Y7.out.trans (b.mono Y7.out.size))
    clear b WB
    obtain ⟨c0, c1⟩ := HC.out _ Y8.out
    go_wp2_with fail
    refine (HSU.out _ (HSB.out _ Y8.out)).mono ?_
    rintro e w9 ⟨rfl, b⟩
    have Y9 := Lib.hid (Y8.out.trans (b.mono Y8.out.size))
    clear b
    clear c0 c1
    obtain ⟨c0, c1⟩ := HC.out _ Y9.out
    go_upto_region 6 with fail
    have HN := Lib.hid (BxR.new w9 rs t)
    have YA := Lib.hid (Y9.out.alloc Y9.out.size (ratO rs t))
    obtain ⟨g9, hg⟩ : ∃ g, g = w9.heap.size := ⟨_, rfl⟩
    obtain ⟨V9, hV⟩ : ∃ V, V = w9.alloc (ratO rs t) := ⟨_, rfl⟩
    rw [← hg, ← hV] at HN
    rw [← hV] at YA ⊢
    try rw [← hg]
    clear hg hV
    clear c0 c1
    have HBV := Lib.hid (HBW.out.trans (YA.out.mono HBW.out.size))
    have HSV := Lib.hid (show ∀ wx, Below V9.heap.size V9 wx → Stf wx from fun wx hx => HSB.out wx (YA.out.trans (hx.mono YA.out.size)))
    have HCV := Lib.hid (show ∀ wx, Below V9.heap.size V9 wx → wx.cell? ⟨w.heap.size, 0, none⟩ = some (.string s) ∧ wx.cell? ⟨w.heap.size, 1, none⟩ = some (.string t) ∧ wx.cell? ⟨g9, 0, none⟩ = some (.string rs) ∧ wx.cell? ⟨g9, 1, none⟩ = some (.string t) from fun wx hx => by
      obtain ⟨c0, c1⟩ := HC.out wx (YA.out.trans (hx.mono YA.out.size))
      exact ⟨c0, c1, (HN.out.below hx).num, (HN.out.below hx).den⟩)
    clear HBW HSB HC HN YA Y9
    have HBW := HBV
    have HSB := HSV
    have HC := HCV
    clear HBV HSV HCV
    have Y1009 := Lib.hid (Below.refl V9.heap.size V9)
    obtain ⟨c0, c1, c2, c3⟩ := HC.out _ Y1009.out
    go_upto_region 6 with fail
    have D1_0 := Lib.hid (show Below V9.heap.size V9 V9.drew from Y1009.out.trans ((Below.drew (Below.refl V9.heap.size V9)).mono Y1009.out.size))
    clear c0 c1 c2 c3
    refine wp_region_det (S := fun W => Below V9.heap.size V9 W) (by kernel_rfl) D1_0.out ?_
    refine' det_take 0 (v := ?v1) ?hi1 (by kernel_rfl) (by kernel_rfl) (by kernel_rfl) (Does.val ?hw1 ?hv1) ?r1
    case hi1 => (simp only [List.getElem?_toArray, List.getElem?_cons_zero]; rfl)
    case hw1 => rfl
    case hv1 => (intro wx hSw; obtain ⟨c0, c1, c2, c3⟩ := HC.out wx hSw; go_simp; (try with_reducible rfl))
    (try simp only [Act.put, List.setIfInBounds_toArray, List.set_cons_zero, List.set_cons_succ])
    refine' det_take 1 (v := .string fl) ?hi2 (by kernel_rfl) (by kernel_rfl) (by kernel_rfl) (Does.call ?hw2 ?hv2 ?hc2) ?r2
    case hi2 => (simp only [List.getElem?_toArray, List.getElem?_cons_succ, List.getElem?_cons_zero]; rfl)
    case hw2 => rfl
    case hv2 => (intro wx hSw; go_simp; (first | done | exact ⟨rfl, rfl⟩ | with_reducible rfl))
    case hc2 => (intro wx hSw; refine (HFLF.out _ (HSB.out _ hSw)).mono ?_; rintro e wy ⟨rfl, h⟩; exact ⟨rfl, hSw.trans (h.mono hSw.size)⟩)
    (try simp only [Act.put, List.setIfInBounds_toArray, List.set_cons_zero, List.set_cons_succ])
    refine' det_take 2 (v := ?v3) ?hi3 (by kernel_rfl) (by kernel_rfl) (by kernel_rfl) (Does.val ?hw3 ?hv3) ?r3
    case hi3 => (simp only [List.getElem?_toArray, List.getElem?_cons_succ, List.getElem?_cons_zero]; rfl)
    case hw3 => rfl
    case hv3 => (intro wx hSw; go_simp; (try with_reducible rfl))
    (try simp only [Act.put, List.setIfInBounds_toArray, List.set_cons_zero, List.set_cons_succ])
    refine' det_take 3 (v := ?v4) ?hi4 (by kernel_rfl) (by kernel_rfl) (by kernel_rfl) (Does.val ?hw4 ?hv4) ?r4
    case hi4 => (simp only [List.getElem?_toArray, List.getElem?_cons_succ, List.getElem?_cons_zero]; rfl)
    case hw4 => rfl
    case hv4 => (intro wx hSw; go_simp; (try with_reducible rfl))
    (try simp only [Act.put, List.setIfInBounds_toArray, List.set_cons_zero, List.set_cons_succ])
    refine' det_take 4 (v := ?v5) ?hi5 (by kernel_rfl) (by kernel_rfl) (by kernel_rfl) (Does.val ?hw5 ?hv5) ?r5
    case hi5 => (simp only [List.getElem?_toArray, List.getElem?_cons_succ, List.getElem?_cons_zero]; rfl)
    case hw5 => rfl
    case hv5 => (intro wx hSw; go_simp; (try with_reducible rfl))
    (try simp only [Act.put, List.setIfInBounds_toArray, List.set_cons_zero, List.set_cons_succ])
    refine' det_take 5 (v := ?v6) ?hi6 (by kernel_rfl) (by kernel_rfl) (by kernel_rfl) (Does.val ?hw6 ?hv6) ?r6
    case hi6 => (simp only [List.getElem?_toArray, List.getElem?_cons_succ, List.getElem?_cons_zero]; rfl)
    case hw6 => rfl
    case hv6 => (intro wx hSw; obtain ⟨c0, c1, c2, c3⟩ := HC.out wx hSw; go_simp; (try with_reducible rfl))
    (try simp only [Act.put, List.setIfInBounds_toArray, List.set_cons_zero, List.set_cons_succ])
    refine' det_take 6 (v := .string ce) ?hi7 (by kernel_rfl) (by kernel_rfl) (by kernel_rfl) (Does.call ?hw7 ?hv7 ?hc7) ?r7
    case hi7 => (simp only [List.getElem?_toArray, List.getElem?_cons_succ, List.getElem?_cons_zero]; rfl)
    case hw7 => rfl
    case hv7 => (intro wx hSw; go_simp; (first | done | exact ⟨rfl, rfl⟩ | with_reducible rfl))
    case hc7 => (intro wx hSw; refine (HCE.out _ (HSB.out _ hSw)).mono ?_; rintro e wy ⟨rfl, h⟩; exact ⟨rfl, hSw.trans (h.mono hSw.size)⟩)
    (try simp only [Act.put, List.setIfInBounds_toArray, List.set_cons_zero, List.set_cons_succ])
    refine' det_take 7 (v := ?v8) ?hi8 (by kernel_rfl) (by kernel_rfl) (by kernel_rfl) (Does.val ?hw8 ?hv8) ?r8
    case hi8 => (simp only [List.getElem?_toArray, List.getElem?_cons_succ, List.getElem?_cons_zero]; rfl)
    case hw8 => rfl
    case hv8 => (intro wx hSw; go_simp; (try with_reducible rfl))
    (try simp only [Act.put, List.setIfInBounds_toArray, List.set_cons_zero, List.set_cons_succ])
    refine' det_take 8 (v := ?v9) ?hi9 (by kernel_rfl) (by kernel_rfl) (by kernel_rfl) (Does.val ?hw9 ?hv9) ?r9
    case hi9 => (simp only [List.getElem?_toArray, List.getElem?_cons_succ, List.getElem?_cons_zero]; rfl)
    case hw9 => rfl
    case hv9 => (intro wx hSw; go_simp; (try with_reducible rfl))
    (try simp only [Act.put, List.setIfInBounds_toArray, List.set_cons_zero, List.set_cons_succ])
    refine' det_take 9 (v := ?v10) ?hi10 (by kernel_rfl) (by kernel_rfl) (by kernel_rfl) (Does.val ?hw10 ?hv10) ?r10
    case hi10 => (simp only [List.getElem?_toArray, List.getElem?_cons_succ, List.getElem?_cons_zero]; rfl)
    case hw10 => rfl
    case hv10 => (intro wx hSw; go_simp; (try with_reducible rfl))
    (try simp only [Act.put, List.setIfInBounds_toArray, List.set_cons_zero, List.set_cons_succ])
    refine' det_take 10 (v := ?v11) ?hi11 (by kernel_rfl) (by kernel_rfl) (by kernel_rfl) (Does.val ?hw11 ?hv11) ?r11
    case hi11 => (simp only [List.getElem?_toArray, List.getElem?_cons_succ, List.getElem?_cons_zero]; rfl)
    case hw11 => rfl
    case hv11 => (intro wx hSw; go_simp; (try with_reducible rfl))
    (try simp only [Act.put, List.setIfInBounds_toArray, List.set_cons_zero, List.set_cons_succ])
    refine' det_take 11 (v := ?v12) ?hi12 (by kernel_rfl) (by kernel_rfl) (by kernel_rfl) (Does.val ?hw12 ?hv12) ?r12
    case hi12 => (simp only [List.getElem?_toArray, List.getElem?_cons_succ, List.getElem?_cons_zero]; rfl)
    case hw12 => rfl
    case hv12 => (intro wx hSw; obtain ⟨c0, c1, c2, c3⟩ := HC.out wx hSw; go_simp; (try with_reducible rfl))
    (try simp only [Act.put, List.setIfInBounds_toArray, List.set_cons_zero, List.set_cons_succ])
    refine' det_take 12 (v := .string ne) ?hi13 (by kernel_rfl) (by kernel_rfl) (by kernel_rfl) (Does.call ?hw13 ?hv13 ?hc13) ?r13
    case hi13 => (simp only [List.getElem?_toArray, List.getElem?_cons_succ, List.getElem?_cons_zero]; rfl)
    case hw13 => rfl
    case hv13 => (intro wx hSw; go_simp; (first | done | exact ⟨rfl, rfl⟩ | with_reducible rfl))
    case hc13 => (intro wx hSw; refine (HNE.out _ (HSB.out _ hSw)).mono ?_; rintro e wy ⟨rfl, h⟩; exact ⟨rfl, hSw.trans (h.mono hSw.size)⟩)
    (try simp only [Act.put, List.setIfInBounds_toArray, List.set_cons_zero, List.set_cons_succ])
    refine' det_take 13 (v := ?v14) ?hi14 (by kernel_rfl) (by kernel_rfl) (by kernel_rfl) (Does.val ?hw14 ?hv14) ?r14
    case hi14 => (simp only [List.getElem?_toArray, List.getElem?_cons_succ, List.getElem?_cons_zero]; rfl)
    case hw14 => rfl
    case hv14 => (intro wx hSw; obtain ⟨c0, c1, c2, c3⟩ := HC.out wx hSw; go_simp; (try with_reducible rfl))
    (try simp only [Act.put, List.setIfInBounds_toArray, List.set_cons_zero, List.set_cons_succ])
    refine' det_take 14 (v := .string ne) ?hi15 (by kernel_rfl) (by kernel_rfl) (by kernel_rfl) (Does.call ?hw15 ?hv15 ?hc15) ?r15
    case hi15 => (simp only [List.getElem?_toArray, List.getElem?_cons_succ, List.getElem?_cons_zero]; rfl)
    case hw15 => rfl
    case hv15 => (intro wx hSw; go_simp; (first | done | exact ⟨rfl, rfl⟩ | with_reducible rfl))
    case hc15 => (intro wx hSw; refine (HNR.out _ (HSB.out _ hSw)).mono ?_; rintro e wy ⟨rfl, h⟩; exact ⟨rfl, hSw.trans (h.mono hSw.size)⟩)
    (try simp only [Act.put, List.setIfInBounds_toArray, List.set_cons_zero, List.set_cons_succ])
    refine' det_take 15 (v := ?v16) ?hi16 (by kernel_rfl) (by kernel_rfl) (by kernel_rfl) (Does.val ?hw16 ?hv16) ?r16
    case hi16 => (simp only [List.getElem?_toArray, List.getElem?_cons_succ, List.getElem?_cons_zero]; rfl)
    case hw16 => rfl
    case hv16 => (intro wx hSw; go_simp; (try with_reducible rfl))
    (try simp only [Act.put, List.setIfInBounds_toArray, List.set_cons_zero, List.set_cons_succ])
    refine' det_take 16 (v := ?v17) ?hi17 (by kernel_rfl) (by kernel_rfl) (by kernel_rfl) (Does.val ?hw17 ?hv17) ?r17
    case hi17 => (simp only [List.getElem?_toArray, List.getElem?_cons_succ, List.getElem?_cons_zero]; rfl)
    case hw17 => rfl
    case hv17 => (intro wx hSw; go_simp; (try with_reducible rfl))
    (try simp only [Act.put, List.setIfInBounds_toArray, List.set_cons_zero, List.set_cons_succ])
    refine' det_take 17 (v := ?v18) ?hi18 (by kernel_rfl) (by kernel_rfl) (by kernel_rfl) (Does.val ?hw18 ?hv18) ?r18
    case hi18 => (simp only [List.getElem?_toArray, List.getElem?_cons_succ, List.getElem?_cons_zero]; rfl)
    case hw18 => rfl
    case hv18 => (intro wx hSw; go_simp; (try with_reducible rfl))
    (try simp only [Act.put, List.setIfInBounds_toArray, List.set_cons_zero, List.set_cons_succ])
    refine' det_take 18 (v := ?v19) ?hi19 (by kernel_rfl) (by kernel_rfl) (by kernel_rfl) (Does.val ?hw19 ?hv19) ?r19
    case hi19 => (simp only [List.getElem?_toArray, List.getElem?_cons_succ, List.getElem?_cons_zero]; rfl)
    case hw19 => rfl
    case hv19 => (intro wx hSw; obtain ⟨c0, c1, c2, c3⟩ := HC.out wx hSw; go_simp; (try with_reducible rfl))
    (try simp only [Act.put, List.setIfInBounds_toArray, List.set_cons_zero, List.set_cons_succ])
    refine' det_take 19 (v := ratV rs t) ?hi20 (by kernel_rfl) (by kernel_rfl) (by kernel_rfl) (Does.call ?hw20 ?hv20 ?hc20) ?r20
    case hi20 => (simp only [List.getElem?_toArray, List.getElem?_cons_succ, List.getElem?_cons_zero]; rfl)
    case hw20 => rfl
    case hv20 => (intro wx hSw; go_simp; (first | done | exact ⟨rfl, rfl⟩ | with_reducible rfl))
    case hc20 => (intro wx hSw; refine (HRE.out _ (HSB.out _ hSw)).mono ?_; rintro e wy ⟨rfl, h⟩; exact ⟨rfl, hSw.trans (h.mono hSw.size)⟩)
    (try simp only [Act.put, List.setIfInBounds_toArray, List.set_cons_zero, List.set_cons_succ])
    refine' det_take 20 (v := ?v21) ?hi21 (by kernel_rfl) (by kernel_rfl) (by kernel_rfl) (Does.val ?hw21 ?hv21) ?r21
    case hi21 => (simp only [List.getElem?_toArray, List.getElem?_cons_succ, List.getElem?_cons_zero]; rfl)
    case hw21 => rfl
    case hv21 => (intro wx hSw; obtain ⟨c0, c1, c2, c3⟩ := HC.out wx hSw; go_simp; (try with_reducible rfl))
    (try simp only [Act.put, List.setIfInBounds_toArray, List.set_cons_zero, List.set_cons_succ])
    refine' det_take 21 (v := ?v22) ?hi22 (by kernel_rfl) (by kernel_rfl) (by kernel_rfl) (Does.val ?hw22 ?hv22) ?r22
    case hi22 => (simp only [List.getElem?_toArray, List.getElem?_cons_succ, List.getElem?_cons_zero]; rfl)
    case hw22 => rfl
    case hv22 => (intro wx hSw; go_simp; (try with_reducible rfl))
    (try simp only [Act.put, List.setIfInBounds_toArray, List.set_cons_zero, List.set_cons_succ])
    refine' det_take 22 (v := ?v23) ?hi23 (by kernel_rfl) (by kernel_rfl) (by kernel_rfl) (Does.val ?hw23 ?hv23) ?r23
    case hi23 => (simp only [List.getElem?_toArray, List.getElem?_cons_succ, List.getElem?_cons_zero]; rfl)
    case hw23 => rfl
    case hv23 => (intro wx hSw; go_simp; (try with_reducible rfl))
    (try simp only [Act.put, List.setIfInBounds_toArray, List.set_cons_zero, List.set_cons_succ])
    refine det_done (by kernel_rfl) (fun v1_1 hS => ?_) _
    have D1_1 := Lib.hid hS
    clear hS D1_0
    obtain ⟨c0, c1, c2, c3⟩ := HC.out _ D1_1.out
    go_wp2_with fail
    refine (HRO.out _ (HSB.out _ D1_1.out)).mono ?_
    rintro e w10 ⟨rfl, b⟩
    have Y10 := Lib.hid (D1_1.out.trans (b.mono D1_1.out.size))
    clear b
    clear c0 c1 c2 c3
    obtain ⟨c0, c1, c2, c3⟩ := HC.out _ Y10.out
    go_upto_region 9 with fail
    have HN := Lib.hid (BxR.new w10 ys yt)
    have YA := Lib.hid (Y10.out.alloc Y10.out.size (ratO ys yt))
    obtain ⟨g10, hg⟩ : ∃ g, g = w10.heap.size := ⟨_, rfl⟩
    obtain ⟨V10, hV⟩ : ∃ V, V = w10.alloc (ratO ys yt) := ⟨_, rfl⟩
    rw [← hg, ← hV] at HN
    rw [← hV] at YA ⊢
    try rw [← hg]
    clear hg hV
    clear c0 c1 c2 c3
    have HBV := Lib.hid (HBW.out.trans (YA.out.mono HBW.out.size))
    have HSV := Lib.hid (show ∀ wx, Below V10.heap.size V10 wx → Stf wx from fun wx hx => HSB.out wx (YA.out.trans (hx.mono YA.out.size)))
    have HCV := Lib.hid (show ∀ wx, Below V10.heap.size V10 wx → wx.cell? ⟨w.heap.size, 0, none⟩ = some (.string s) ∧ wx.cell? ⟨w.heap.size, 1, none⟩ = some (.string t) ∧ wx.cell? ⟨g9, 0, none⟩ = some (.string rs) ∧ wx.cell? ⟨g9, 1, none⟩ = some (.string t) ∧ wx.cell? ⟨g10, 0, none⟩ = some (.string ys) ∧ wx.cell? ⟨g10, 1, none⟩ = some (.string yt) from fun wx hx => by
      obtain ⟨c0, c1, c2, c3⟩ := HC.out wx (YA.out.trans (hx.mono YA.out.size))
      exact ⟨c0, c1, c2, c3, (HN.out.below hx).num, (HN.out.below hx).den⟩)
    clear HBW HSB HC HN YA Y10
    have HBW := HBV
    have HSB := HSV
    have HC := HCV
    clear HBV HSV HCV
    have Y1010 := Lib.hid (Below.refl V10.heap.size V10)
    obtain ⟨c0, c1, c2, c3, c4, c5⟩ := HC.out _ Y1010.out
    rcases RX.out with HX | HX
    · clear RX
      obtain ⟨rfl, rfl, rfl, q1 | ⟨q1, q2⟩⟩ := HX
      · go_wp2_with fail
        go_ret
        exact ⟨rfl, HBW.out.trans (Y1010.out.mono HBW.out.size)⟩
      · go_wp2_with fail
        go_ret
        exact ⟨rfl, HBW.out.trans (Y1010.out.mono HBW.out.size)⟩
    · clear RX
      obtain ⟨rfl, q1, q2, gs, gt, ms, mt, km, kk, H1, H2, H3, H4, H5, H6⟩ := HX
      have HFG := Lib.hid H1
      clear H1
      have HMG := Lib.hid H2
      clear H2
      have HNM := Lib.hid H3
      clear H3
      have HTK := Lib.hid H4
      clear H4
      have HOG := Lib.hid H5
      clear H5
      have HMK := Lib.hid H6
      clear H6
      go_upto_region 11 with fail
      have D2_0 := Lib.hid (show Below V10.heap.size V10 V10.drew from Y1010.out.trans ((Below.drew (Below.refl V10.heap.size V10)).mono Y1010.out.size))
      clear c0 c1 c2 c3 c4 c5
      refine wp_region_det (S := fun W => Below V10.heap.size V10 W) (by kernel_rfl) D2_0.out ?_
      refine' det_take 0 (v := ?v24) ?hi24 (by kernel_rfl) (by kernel_rfl) (by kernel_rfl) (Does.val ?hw24 ?hv24) ?r24
      case hi24 => (simp only [List.getElem?_toArray, List.getElem?_cons_zero]; rfl)
      case hw24 => rfl
      case hv24 => (intro wx hSw; obtain ⟨c0, c1, c2, c3, c4, c5⟩ := HC.out wx hSw; go_simp; (try with_reducible rfl))
      (try simp only [Act.put, List.setIfInBounds_toArray, List.set_cons_zero, List.set_cons_succ])
      refine' det_take 1 (v := ?v25) ?hi25 (by kernel_rfl) (by kernel_rfl) (by kernel_rfl) (Does.val ?hw25 ?hv25) ?r25
      case hi25 => (simp only [List.getElem?_toArray, List.getElem?_cons_succ, List.getElem?_cons_zero]; rfl)
      case hw25 => rfl
      case hv25 => (intro wx hSw; go_simp; (try with_reducible rfl))
      (try simp only [Act.put, List.setIfInBounds_toArray, List.set_cons_zero, List.set_cons_succ])
      refine' det_take 2 (v := ratV gs gt) ?hi26 (by kernel_rfl) (by kernel_rfl) (by kernel_rfl) (Does.call ?hw26 ?hv26 ?hc26) ?r26
      case hi26 => (simp only [List.getElem?_toArray, List.getElem?_cons_succ, List.getElem?_cons_zero]; rfl)
      case hw26 => rfl
      case hv26 => (intro wx hSw; go_simp; (first | done | exact ⟨rfl, rfl⟩ | with_reducible rfl))
      case hc26 => (intro wx hSw; refine (HFG.out _ (HSB.out _ hSw)).mono ?_; rintro e wy ⟨rfl, h⟩; exact ⟨rfl, hSw.trans (h.mono hSw.size)⟩)
      (try simp only [Act.put, List.setIfInBounds_toArray, List.set_cons_zero, List.set_cons_succ])
      refine' det_take 3 (v := ratV ms mt) ?hi27 (by kernel_rfl) (by kernel_rfl) (by kernel_rfl) (Does.call ?hw27 ?hv27 ?hc27) ?r27
      case hi27 => (simp only [List.getElem?_toArray, List.getElem?_cons_succ, List.getElem?_cons_zero]; rfl)
      case hw27 => rfl
      case hv27 => (intro wx hSw; go_simp; (first | done | exact ⟨rfl, rfl⟩ | with_reducible rfl))
      case hc27 => (intro wx hSw; refine (HMG.out _ (HSB.out _ hSw)).mono ?_; rintro e wy ⟨rfl, h⟩; exact ⟨rfl, hSw.trans (h.mono hSw.size)⟩)
      (try simp only [Act.put, List.setIfInBounds_toArray, List.set_cons_zero, List.set_cons_succ])
      refine' det_take 4 (v := .string km) ?hi28 (by kernel_rfl) (by kernel_rfl) (by kernel_rfl) (Does.call ?hw28 ?hv28 ?hc28) ?r28
      case hi28 => (simp only [List.getElem?_toArray, List.getElem?_cons_succ, List.getElem?_cons_zero]; rfl)
      case hw28 => rfl
      case hv28 => (intro wx hSw; go_simp; (first | done | exact ⟨rfl, rfl⟩ | with_reducible rfl))
      case hc28 => (intro wx hSw; refine (HNM.out _ (HSB.out _ hSw)).mono ?_; rintro e wy ⟨rfl, h⟩; exact ⟨rfl, hSw.trans (h.mono hSw.size)⟩)
      (try simp only [Act.put, List.setIfInBounds_toArray, List.set_cons_zero, List.set_cons_succ])
      refine' det_take 5 (v := ?v29) ?hi29 (by kernel_rfl) (by kernel_rfl) (by kernel_rfl) (Does.val ?hw29 ?hv29) ?r29
      case hi29 => (simp only [List.getElem?_toArray, List.getElem?_cons_succ, List.getElem?_cons_zero]; rfl)
      case hw29 => rfl
      case hv29 => (intro wx hSw; go_simp; (try with_reducible rfl))
      (try simp only [Act.put, List.setIfInBounds_toArray, List.set_cons_zero, List.set_cons_succ])
      refine det_done (by kernel_rfl) (fun v2_1 hS => ?_) _
      have D2_1 := Lib.hid hS
      clear hS D2_0
      go_upto_region 12 with fail
      have D0 := Lib.hid (show Below V10.heap.size V10 v2_1.drew from D2_1.out.trans ((Below.drew (Below.refl v2_1.heap.size v2_1)).mono D2_1.out.size))
      refine' wp_region_inv (J := fun A D a wx => ∃ (x0 x1 x2 x3 x4 x5 x6 x7 x8 x9 x10 x11 : Value) (b1 : Bool) (o1 : Option Addr) (c1 : Nat) (L1 : List Nat) (b2 : Bool) (o2 : Option Addr) (c2 : Nat) (L2 : List Nat), a = lay A [(79, x0), (80, x1), (81, x2), (82, x3), (83, x4), (84, x5), (85, x6), (86, x7), (87, x8), (88, x9), (89, x10), (4, x11)] ∧ RowKit.Hid (Below V10.heap.size V10 wx ∧ (D 0 = true → x0 = .int .i64 0) ∧ (D 1 = true → x1 = .bool true) ∧ (D 2 = true → x2 = .bool true) ∧ (D 3 = true → x3 = ratV ys yt) ∧ (D 4 = true → x4 = .string km) ∧ (D 5 = true → x5 = .agg #[.bool b1, .slice o1 L1.length c1]) ∧ (D 6 = true → x6 = .int .i64 g) ∧ (D 7 = true → x7 = .agg #[.bool b2, .slice o2 L2.length c2]) ∧ (D 8 = true → x8 = ratV ys yt) ∧ (D 9 = true → x9 = .bool true) ∧ (D 10 = true → x10 = .bool true) ∧ (D 11 = true → x11 = .bool true) ∧ (D 5 = true → Wh wx b1 o1 c1 L1 kk) ∧ (D 7 = true → Wh wx b2 o2 c2 L2 g))) (rs := [0, 1, 2, 3, 4, 5, 6, 7, 8, 9, 10, 11]) (by kernel_rfl) (by kernel_rfl) (by kernel_rfl) ?h0r ?hsr ?finr
      case h0r =>
        intro D hD
        refine' ⟨_, _, _, _, _, _, _, _, _, _, _, _, false, none, 0, [], false, none, 0, [], ?actr, Lib.hid ⟨D0.out, fun h => (Bool.false_ne_true ((hD _ (by decide)).symm.trans h)).elim, fun h => (Bool.false_ne_true ((hD _ (by decide)).symm.trans h)).elim, fun h => (Bool.false_ne_true ((hD _ (by decide)).symm.trans h)).elim, fun h => (Bool.false_ne_true ((hD _ (by decide)).symm.trans h)).elim, fun h => (Bool.false_ne_true ((hD _ (by decide)).symm.trans h)).elim, fun h => (Bool.false_ne_true ((hD _ (by decide)).symm.trans h)).elim, fun h => (Bool.false_ne_true ((hD _ (by decide)).symm.trans h)).elim, fun h => (Bool.false_ne_true ((hD _ (by decide)).symm.trans h)).elim, fun h => (Bool.false_ne_true ((hD _ (by decide)).symm.trans h)).elim, fun h => (Bool.false_ne_true ((hD _ (by decide)).symm.trans h)).elim, fun h => (Bool.false_ne_true ((hD _ (by decide)).symm.trans h)).elim, fun h => (Bool.false_ne_true ((hD _ (by decide)).symm.trans h)).elim, fun h => (Bool.false_ne_true ((hD _ (by decide)).symm.trans h)).elim, fun h => (Bool.false_ne_true ((hD _ (by decide)).symm.trans h)).elim⟩⟩
        case actr => (simp only [lay, List.foldl_cons, List.foldl_nil, Act.put, List.setIfInBounds_toArray, List.set_cons_zero, List.set_cons_succ]; rfl)
      case hsr =>
        refine' StepsI.cons (i := 0) ?hor_0 rfl ?str_0 ?morer_0
        case hor_0 => (simp only [List.getElem?_toArray, List.getElem?_cons_zero]; rfl)
        case str_0 =>
          intro D a wx K hD hp hI hK
          obtain ⟨x0, x1, x2, x3, x4, x5, x6, x7, x8, x9, x10, x11, b1, o1, c1, L1, b2, o2, c2, L2, ha, hF⟩ := hI.out
          have hb := Lib.hid hF.out.1
          simp only [ha, lay, List.foldl_cons, List.foldl_nil, Act.put, List.setIfInBounds_toArray, List.set_cons_zero, List.set_cons_succ]
          go_simp
          clear ha
          clear hb
          obtain ⟨hb, F0, F1, F2, F3, F4, F5, F6, F7, F8, F9, F10, F11, W5, W7⟩ := hF.out
          refine' hK.out _ _ ⟨.int .i64 0, x1, x2, x3, x4, x5, x6, x7, x8, x9, x10, x11, b1, o1, c1, L1, b2, o2, c2, L2, ?actr_0, Lib.hid ⟨hb, fun _ => rfl, F1, F2, F3, F4, F5, F6, F7, F8, F9, F10, F11, W5, W7⟩⟩
          case actr_0 => (simp only [lay, List.foldl_cons, List.foldl_nil, Act.put, List.setIfInBounds_toArray, List.set_cons_zero, List.set_cons_succ]; (try rfl))
        refine' StepsI.cons (i := 1) ?hor_1 rfl ?str_1 ?morer_1
        case hor_1 => (simp only [List.getElem?_toArray, List.getElem?_cons_succ, List.getElem?_cons_zero]; rfl)
        case str_1 =>
          intro D a wx K hD hp hI hK
          obtain ⟨x0, x1, x2, x3, x4, x5, x6, x7, x8, x9, x10, x11, b1, o1, c1, L1, b2, o2, c2, L2, ha, hF⟩ := hI.out
          have hb := Lib.hid hF.out.1
          obtain rfl := hF.out.2.1 (alls_has (k := 0) hp.out rfl)
          simp only [ha, lay, List.foldl_cons, List.foldl_nil, Act.put, List.setIfInBounds_toArray, List.set_cons_zero, List.set_cons_succ]
          go_simp
          clear ha
          clear hb
          obtain ⟨hb, F0, F1, F2, F3, F4, F5, F6, F7, F8, F9, F10, F11, W5, W7⟩ := hF.out
          refine' hK.out _ _ ⟨.int .i64 0, .bool true, x2, x3, x4, x5, x6, x7, x8, x9, x10, x11, b1, o1, c1, L1, b2, o2, c2, L2, ?actr_1, Lib.hid ⟨hb, fun _ => rfl, fun _ => rfl, F2, F3, F4, F5, F6, F7, F8, F9, F10, F11, W5, W7⟩⟩
          case actr_1 => (simp only [lay, List.foldl_cons, List.foldl_nil, Act.put, List.setIfInBounds_toArray, List.set_cons_zero, List.set_cons_succ]; (try rfl))
        refine' StepsI.cons (i := 2) ?hor_2 rfl ?str_2 ?morer_2
        case hor_2 => (simp only [List.getElem?_toArray, List.getElem?_cons_succ, List.getElem?_cons_zero]; rfl)
        case str_2 =>
          intro D a wx K hD hp hI hK
          obtain ⟨x0, x1, x2, x3, x4, x5, x6, x7, x8, x9, x10, x11, b1, o1, c1, L1, b2, o2, c2, L2, ha, hF⟩ := hI.out
          have hb := Lib.hid hF.out.1
          obtain rfl := hF.out.2.2.1 (alls_has (k := 1) hp.out rfl)
          simp only [ha, lay, List.foldl_cons, List.foldl_nil, Act.put, List.setIfInBounds_toArray, List.set_cons_zero, List.set_cons_succ]
          go_simp
          clear ha
          clear hb
          obtain ⟨hb, F0, F1, F2, F3, F4, F5, F6, F7, F8, F9, F10, F11, W5, W7⟩ := hF.out
          refine' hK.out _ _ ⟨x0, .bool true, .bool true, x3, x4, x5, x6, x7, x8, x9, x10, x11, b1, o1, c1, L1, b2, o2, c2, L2, ?actr_2, Lib.hid ⟨hb, F0, fun _ => rfl, fun _ => rfl, F3, F4, F5, F6, F7, F8, F9, F10, F11, W5, W7⟩⟩
          case actr_2 => (simp only [lay, List.foldl_cons, List.foldl_nil, Act.put, List.setIfInBounds_toArray, List.set_cons_zero, List.set_cons_succ]; (try rfl))
        refine' StepsI.cons (i := 3) ?hor_3 rfl ?str_3 ?morer_3
        case hor_3 => (simp only [List.getElem?_toArray, List.getElem?_cons_succ, List.getElem?_cons_zero]; rfl)
        case str_3 =>
          intro D a wx K hD hp hI hK
          obtain ⟨x0, x1, x2, x3, x4, x5, x6, x7, x8, x9, x10, x11, b1, o1, c1, L1, b2, o2, c2, L2, ha, hF⟩ := hI.out
          have hb := Lib.hid hF.out.1
          obtain rfl := hF.out.2.2.2.1 (alls_has (k := 2) hp.out rfl)
          obtain ⟨c0, c1, c2, c3, c4, c5⟩ := HC.out wx hb.out
          simp only [ha, lay, List.foldl_cons, List.foldl_nil, Act.put, List.setIfInBounds_toArray, List.set_cons_zero, List.set_cons_succ]
          go_simp
          clear ha
          clear c0 c1 c2 c3 c4 c5
          clear hb
          obtain ⟨hb, F0, F1, F2, F3, F4, F5, F6, F7, F8, F9, F10, F11, W5, W7⟩ := hF.out
          refine' hK.out _ _ ⟨x0, x1, .bool true, ratV ys yt, x4, x5, x6, x7, x8, x9, x10, x11, b1, o1, c1, L1, b2, o2, c2, L2, ?actr_3, Lib.hid ⟨hb, F0, F1, fun _ => rfl, fun _ => rfl, F4, F5, F6, F7, F8, F9, F10, F11, W5, W7⟩⟩
          case actr_3 => (simp only [lay, List.foldl_cons, List.foldl_nil, Act.put, List.setIfInBounds_toArray, List.set_cons_zero, List.set_cons_succ]; (try rfl))
        refine' StepsI.cons (i := 4) ?hor_4 rfl ?str_4 ?morer_4
        case hor_4 => (simp only [List.getElem?_toArray, List.getElem?_cons_succ, List.getElem?_cons_zero]; rfl)
        case str_4 =>
          intro D a wx K hD hp hI hK
          obtain ⟨x0, x1, x2, x3, x4, x5, x6, x7, x8, x9, x10, x11, b1, o1, c1, L1, b2, o2, c2, L2, ha, hF⟩ := hI.out
          have hb := Lib.hid hF.out.1
          obtain rfl := hF.out.2.2.2.1 (alls_has (k := 2) hp.out rfl)
          simp only [ha, lay, List.foldl_cons, List.foldl_nil, Act.put, List.setIfInBounds_toArray, List.set_cons_zero, List.set_cons_succ]
          go_simp
          clear ha
          clear hb
          obtain ⟨hb, F0, F1, F2, F3, F4, F5, F6, F7, F8, F9, F10, F11, W5, W7⟩ := hF.out
          refine' hK.out _ _ ⟨x0, x1, .bool true, x3, .string km, x5, x6, x7, x8, x9, x10, x11, b1, o1, c1, L1, b2, o2, c2, L2, ?actr_4, Lib.hid ⟨hb, F0, F1, fun _ => rfl, F3, fun _ => rfl, F5, F6, F7, F8, F9, F10, F11, W5, W7⟩⟩
          case actr_4 => (simp only [lay, List.foldl_cons, List.foldl_nil, Act.put, List.setIfInBounds_toArray, List.set_cons_zero, List.set_cons_succ]; (try rfl))
        refine' StepsI.cons (i := 5) ?hor_5 rfl ?str_5 ?morer_5
        case hor_5 => (simp only [List.getElem?_toArray, List.getElem?_cons_succ, List.getElem?_cons_zero]; rfl)
        case str_5 =>
          intro D a wx K hD hp hI hK
          obtain ⟨x0, x1, x2, x3, x4, x5, x6, x7, x8, x9, x10, x11, b1, o1, c1, L1, b2, o2, c2, L2, ha, hF⟩ := hI.out
          have hb := Lib.hid hF.out.1
          obtain rfl := hF.out.2.2.2.1 (alls_has (k := 2) hp.out rfl)
          obtain rfl := hF.out.2.2.2.2.2.1 (alls_has (k := 4) hp.out rfl)
          simp only [ha, lay, List.foldl_cons, List.foldl_nil, Act.put, List.setIfInBounds_toArray, List.set_cons_zero, List.set_cons_succ]
          go_simp
          clear ha
          go_at_call 25
          refine (HTK.out wx).mono ?_
          rintro e wy ⟨⟨b', o', c', L', rfl, hw⟩, h⟩
          (try go_wp2_with fail)
          clear hb
          obtain ⟨hb, F0, F1, F2, F3, F4, F5, F6, F7, F8, F9, F10, F11, W5, W7⟩ := hF.out
          refine' hK.out _ _ ⟨x0, x1, .bool true, x3, .string km, .agg #[.bool b', .slice o' L'.length c'], x6, x7, x8, x9, x10, x11, b', o', c', L', b2, o2, c2, L2, ?actr_5, Lib.hid ⟨hb.trans (h.mono hb.size), F0, F1, fun _ => rfl, F3, fun _ => rfl, fun _ => rfl, F6, F7, F8, F9, F10, F11, fun _ => hw.wh, fun x => (W7 x).below h⟩⟩
          case actr_5 => (simp only [lay, List.foldl_cons, List.foldl_nil, Act.put, List.setIfInBounds_toArray, List.set_cons_zero, List.set_cons_succ]; (try rfl))
        refine' StepsI.cons (i := 6) ?hor_6 rfl ?str_6 ?morer_6
        case hor_6 => (simp only [List.getElem?_toArray, List.getElem?_cons_succ, List.getElem?_cons_zero]; rfl)
        case str_6 =>
          intro D a wx K hD hp hI hK
          obtain ⟨x0, x1, x2, x3, x4, x5, x6, x7, x8, x9, x10, x11, b1, o1, c1, L1, b2, o2, c2, L2, ha, hF⟩ := hI.out
          have hb := Lib.hid hF.out.1
          obtain rfl := hF.out.2.2.2.1 (alls_has (k := 2) hp.out rfl)
          simp only [ha, lay, List.foldl_cons, List.foldl_nil, Act.put, List.setIfInBounds_toArray, List.set_cons_zero, List.set_cons_succ]
          go_simp
          clear ha
          clear hb
          obtain ⟨hb, F0, F1, F2, F3, F4, F5, F6, F7, F8, F9, F10, F11, W5, W7⟩ := hF.out
          refine' hK.out _ _ ⟨x0, x1, .bool true, x3, x4, x5, .int .i64 g, x7, x8, x9, x10, x11, b1, o1, c1, L1, b2, o2, c2, L2, ?actr_6, Lib.hid ⟨hb, F0, F1, fun _ => rfl, F3, F4, F5, fun _ => rfl, F7, F8, F9, F10, F11, W5, W7⟩⟩
          case actr_6 => (simp only [lay, List.foldl_cons, List.foldl_nil, Act.put, List.setIfInBounds_toArray, List.set_cons_zero, List.set_cons_succ]; (try rfl))
        refine' StepsI.cons (i := 7) ?hor_7 rfl ?str_7 ?morer_7
        case hor_7 => (simp only [List.getElem?_toArray, List.getElem?_cons_succ, List.getElem?_cons_zero]; rfl)
        case str_7 =>
          intro D a wx K hD hp hI hK
          obtain ⟨x0, x1, x2, x3, x4, x5, x6, x7, x8, x9, x10, x11, b1, o1, c1, L1, b2, o2, c2, L2, ha, hF⟩ := hI.out
          have hb := Lib.hid hF.out.1
          obtain rfl := hF.out.2.2.2.1 (alls_has (k := 2) hp.out rfl)
          obtain rfl := hF.out.2.2.2.2.2.2.2.1 (alls_has (k := 6) hp.out rfl)
          simp only [ha, lay, List.foldl_cons, List.foldl_nil, Act.put, List.setIfInBounds_toArray, List.set_cons_zero, List.set_cons_succ]
          go_simp
          clear ha
          go_at_call 60
          refine (HOG.out wx (HSB.out _ hb.out).std).mono ?_
          rintro e wy ⟨⟨b', o', c', L', rfl, hw⟩, h⟩
          (try go_wp2_with fail)
          clear hb
          obtain ⟨hb, F0, F1, F2, F3, F4, F5, F6, F7, F8, F9, F10, F11, W5, W7⟩ := hF.out
          refine' hK.out _ _ ⟨x0, x1, .bool true, x3, x4, x5, .int .i64 g, .agg #[.bool b', .slice o' L'.length c'], x8, x9, x10, x11, b1, o1, c1, L1, b', o', c', L', ?actr_7, Lib.hid ⟨hb.trans (h.mono hb.size), F0, F1, fun _ => rfl, F3, F4, F5, fun _ => rfl, fun _ => rfl, F8, F9, F10, F11, fun x => (W5 x).below h, fun _ => hw.wh⟩⟩
          case actr_7 => (simp only [lay, List.foldl_cons, List.foldl_nil, Act.put, List.setIfInBounds_toArray, List.set_cons_zero, List.set_cons_succ]; (try rfl))
        refine' StepsI.cons (i := 8) ?hor_8 rfl ?str_8 ?morer_8
        case hor_8 => (simp only [List.getElem?_toArray, List.getElem?_cons_succ, List.getElem?_cons_zero]; rfl)
        case str_8 =>
          intro D a wx K hD hp hI hK
          obtain ⟨x0, x1, x2, x3, x4, x5, x6, x7, x8, x9, x10, x11, b1, o1, c1, L1, b2, o2, c2, L2, ha, hF⟩ := hI.out
          have hb := Lib.hid hF.out.1
          obtain rfl := hF.out.2.2.2.1 (alls_has (k := 2) hp.out rfl)
          obtain rfl := hF.out.2.2.2.2.2.2.1 (alls_has (k := 5) hp.out rfl)
          obtain rfl := hF.out.2.2.2.2.2.2.2.2.1 (alls_has (k := 7) hp.out rfl)
          have HW1 := Lib.hid (hF.out.2.2.2.2.2.2.2.2.2.2.2.2.2.1 (alls_has (k := 5) hp.out rfl))
          have HW2 := Lib.hid (hF.out.2.2.2.2.2.2.2.2.2.2.2.2.2.2 (alls_has (k := 7) hp.out rfl))
          simp only [ha, lay, List.foldl_cons, List.foldl_nil, Act.put, List.setIfInBounds_toArray, List.set_cons_zero, List.set_cons_succ]
          go_simp
          clear ha
          go_at_call 24
          refine (HMK.out b1 o1 c1 L1 b2 o2 c2 L2 wx (HSB.out _ hb.out).std HW1.out HW2.out).mono ?_
          rintro e wy ⟨rfl, h⟩
          (try go_wp2_with fail)
          clear HW1 HW2
          clear hb
          obtain ⟨hb, F0, F1, F2, F3, F4, F5, F6, F7, F8, F9, F10, F11, W5, W7⟩ := hF.out
          refine' hK.out _ _ ⟨x0, x1, .bool true, x3, x4, .agg #[.bool b1, .slice o1 L1.length c1], x6, .agg #[.bool b2, .slice o2 L2.length c2], ratV ys yt, x9, x10, x11, b1, o1, c1, L1, b2, o2, c2, L2, ?actr_8, Lib.hid ⟨hb.trans (h.mono hb.size), F0, F1, fun _ => rfl, F3, F4, fun _ => rfl, F6, fun _ => rfl, fun _ => rfl, F9, F10, F11, fun x => (W5 x).below h, fun x => (W7 x).below h⟩⟩
          case actr_8 => (simp only [lay, List.foldl_cons, List.foldl_nil, Act.put, List.setIfInBounds_toArray, List.set_cons_zero, List.set_cons_succ]; (try rfl))
        refine' StepsI.cons (i := 9) ?hor_9 rfl ?str_9 ?morer_9
        case hor_9 => (simp only [List.getElem?_toArray, List.getElem?_cons_succ, List.getElem?_cons_zero]; rfl)
        case str_9 =>
          intro D a wx K hD hp hI hK
          obtain ⟨x0, x1, x2, x3, x4, x5, x6, x7, x8, x9, x10, x11, b1, o1, c1, L1, b2, o2, c2, L2, ha, hF⟩ := hI.out
          have hb := Lib.hid hF.out.1
          obtain rfl := hF.out.2.2.2.1 (alls_has (k := 2) hp.out rfl)
          obtain rfl := hF.out.2.2.2.2.1 (alls_has (k := 3) hp.out rfl)
          obtain rfl := hF.out.2.2.2.2.2.2.2.2.2.1 (alls_has (k := 8) hp.out rfl)
          simp only [ha, lay, List.foldl_cons, List.foldl_nil, Act.put, List.setIfInBounds_toArray, List.set_cons_zero, List.set_cons_succ]
          go_simp
          clear ha
          clear hb
          obtain ⟨hb, F0, F1, F2, F3, F4, F5, F6, F7, F8, F9, F10, F11, W5, W7⟩ := hF.out
          refine' hK.out _ _ ⟨x0, x1, .bool true, ratV ys yt, x4, x5, x6, x7, ratV ys yt, .bool true, x10, x11, b1, o1, c1, L1, b2, o2, c2, L2, ?actr_9, Lib.hid ⟨hb, F0, F1, fun _ => rfl, fun _ => rfl, F4, F5, F6, F7, fun _ => rfl, fun _ => rfl, F10, F11, W5, W7⟩⟩
          case actr_9 => (simp only [lay, List.foldl_cons, List.foldl_nil, Act.put, List.setIfInBounds_toArray, List.set_cons_zero, List.set_cons_succ]; (try rfl))
        refine' StepsI.cons (i := 10) ?hor_10 rfl ?str_10 ?morer_10
        case hor_10 => (simp only [List.getElem?_toArray, List.getElem?_cons_succ, List.getElem?_cons_zero]; rfl)
        case str_10 =>
          intro D a wx K hD hp hI hK
          obtain ⟨x0, x1, x2, x3, x4, x5, x6, x7, x8, x9, x10, x11, b1, o1, c1, L1, b2, o2, c2, L2, ha, hF⟩ := hI.out
          have hb := Lib.hid hF.out.1
          obtain rfl := hF.out.2.2.2.1 (alls_has (k := 2) hp.out rfl)
          obtain rfl := hF.out.2.2.2.2.2.2.2.2.2.2.1 (alls_has (k := 9) hp.out rfl)
          simp only [ha, lay, List.foldl_cons, List.foldl_nil, Act.put, List.setIfInBounds_toArray, List.set_cons_zero, List.set_cons_succ]
          go_simp
          clear ha
          clear hb
          obtain ⟨hb, F0, F1, F2, F3, F4, F5, F6, F7, F8, F9, F10, F11, W5, W7⟩ := hF.out
          refine' hK.out _ _ ⟨x0, x1, .bool true, x3, x4, x5, x6, x7, x8, .bool true, .bool true, x11, b1, o1, c1, L1, b2, o2, c2, L2, ?actr_10, Lib.hid ⟨hb, F0, F1, fun _ => rfl, F3, F4, F5, F6, F7, F8, fun _ => rfl, fun _ => rfl, F11, W5, W7⟩⟩
          case actr_10 => (simp only [lay, List.foldl_cons, List.foldl_nil, Act.put, List.setIfInBounds_toArray, List.set_cons_zero, List.set_cons_succ]; (try rfl))
        refine' StepsI.cons (i := 11) ?hor_11 rfl ?str_11 ?morer_11
        case hor_11 => (simp only [List.getElem?_toArray, List.getElem?_cons_succ, List.getElem?_cons_zero]; rfl)
        case str_11 =>
          intro D a wx K hD hp hI hK
          obtain ⟨x0, x1, x2, x3, x4, x5, x6, x7, x8, x9, x10, x11, b1, o1, c1, L1, b2, o2, c2, L2, ha, hF⟩ := hI.out
          have hb := Lib.hid hF.out.1
          obtain rfl := hF.out.2.2.2.2.2.2.2.2.2.2.2.1 (alls_has (k := 10) hp.out rfl)
          simp only [ha, lay, List.foldl_cons, List.foldl_nil, Act.put, List.setIfInBounds_toArray, List.set_cons_zero, List.set_cons_succ]
          go_simp
          clear ha
          clear hb
          obtain ⟨hb, F0, F1, F2, F3, F4, F5, F6, F7, F8, F9, F10, F11, W5, W7⟩ := hF.out
          refine' hK.out _ _ ⟨x0, x1, x2, x3, x4, x5, x6, x7, x8, x9, .bool true, .bool true, b1, o1, c1, L1, b2, o2, c2, L2, ?actr_11, Lib.hid ⟨hb, F0, F1, F2, F3, F4, F5, F6, F7, F8, F9, fun _ => rfl, fun _ => rfl, W5, W7⟩⟩
          case actr_11 => (simp only [lay, List.foldl_cons, List.foldl_nil, Act.put, List.setIfInBounds_toArray, List.set_cons_zero, List.set_cons_succ]; (try rfl))
        exact StepsI.nil
      intro D a v hD hI
      obtain ⟨x0, x1, x2, x3, x4, x5, x6, x7, x8, x9, x10, x11, b1, o1, c1, L1, b2, o2, c2, L2, ha, hF⟩ := hI.out
      obtain rfl := hF.out.2.1 (hD _ (by decide))
      obtain rfl := hF.out.2.2.1 (hD _ (by decide))
      obtain rfl := hF.out.2.2.2.1 (hD _ (by decide))
      obtain rfl := hF.out.2.2.2.2.1 (hD _ (by decide))
      obtain rfl := hF.out.2.2.2.2.2.1 (hD _ (by decide))
      obtain rfl := hF.out.2.2.2.2.2.2.1 (hD _ (by decide))
      obtain rfl := hF.out.2.2.2.2.2.2.2.1 (hD _ (by decide))
      obtain rfl := hF.out.2.2.2.2.2.2.2.2.1 (hD _ (by decide))
      obtain rfl := hF.out.2.2.2.2.2.2.2.2.2.1 (hD _ (by decide))
      obtain rfl := hF.out.2.2.2.2.2.2.2.2.2.2.1 (hD _ (by decide))
      obtain rfl := hF.out.2.2.2.2.2.2.2.2.2.2.2.1 (hD _ (by decide))
      obtain rfl := hF.out.2.2.2.2.2.2.2.2.2.2.2.2.1 (hD _ (by decide))
      have YZ := Lib.hid hF.out.1
      clear hF
      simp only [ha, lay, List.foldl_cons, List.foldl_nil, Act.put, List.setIfInBounds_toArray, List.set_cons_zero, List.set_cons_succ]
      clear hI hD ha
      go_wp2_with fail
      go_ret
      exact ⟨rfl, HBW.out.trans (YZ.out.mono HBW.out.size)⟩
end Go.Proofs.YtdgbplppabalgaaGreatDoor
