/-
  gcd, Gcd, Lcm.
-/
import Derived.Test.YtfhmdlpjeiockaaDoorDivMod
import Derived.Test.YtfhmdlpjeiockaaDoorGcds
import Derived.Test.YtfhmdlpjeiockaaDoorTools
import Derived.Deep.LoopGhost
namespace Go.Proofs.YtfhmdlpjeiockaaDoor
open Go.RowKit

theorem modH_step (P B x n : Nat) : (x + B * P) % n = (P % n * B + x) % n := by
  rw [Nat.add_comm x, Nat.mul_comm B, Nat.add_mod (P * B), Nat.mul_mod P B, Nat.add_mod (P % n * B), Nat.mul_mod (P % n) B, Nat.mod_mod]
/-- what short answers -/
def shB (b : List Nat) : Bool := decide (b.length ≤ 2)
def shN (b : List Nat) : Nat := if b.length ≤ 2 then pv b else 0
theorem short_both (B g cap : Nat) (l : List Nat) (w : World) (h : Row w B g cap l) (h9 : lt9 l) :
    Calls Tryd.prog 43 #[.slice (some ⟨g, 0, none⟩) l.length cap] w fun e w' => e = .returned (.tuple #[.int .u64 (shN l : Int), .bool (shB l)]) ∧ Below w.heap.size w w' := by
  by_cases hl : l.length ≤ 2
  · unfold shN shB; rw [if_pos hl, decide_eq_true hl]; exact short_yes B g cap l w h hl h9
  · unfold shN shB; rw [if_neg hl, decide_eq_false hl]
    refine (short_no B g cap l w h (by omega)).mono ?_
    rintro e w' ⟨rfl, rfl⟩
    exact ⟨rfl, Below.refl _ _⟩
theorem reduce_both (B g cap g' cap' : Nat) (a b : List Nat) (w : World) (ha : Row w B g cap a) (hb : Row w B g' cap' b) (hg : g' ≠ g) (h2 : 2 ≤ b.length) (ha9 : lt9 a) (hb9 : lt9 b) (htop : Go.Proofs.YtfhmdlpjeiockaaDoor.top b) (hlen : a.length ≤ 200000) (hB : B ≤ w.heap.size) :
    Calls Tryd.prog 46 #[.slice (some ⟨g, 0, none⟩) a.length cap, .slice (some ⟨g', 0, none⟩) b.length cap', .slice none 0 0] w fun e w' => ∃ (g1 cap1 : Nat) (p : List Nat), e = .returned (.slice (some ⟨g1, 0, none⟩) p.length cap1) ∧ Pcs p (pv a % pv b) ∧ Row w' B g1 cap1 p ∧ Row w' B g' cap' b ∧ g1 ≠ g' ∧ Below B w w' := by
  by_cases hab : a.length < b.length
  · exact reduce_less B g cap g' cap' a b w ha hb hg hab ha9 htop hlen hB
  · exact reduce_nil B g cap g' cap' a b w ha hb hg (by omega) h2 ha9 hb9 htop hlen hB
/-- what gcd leaves -/
def GcdPost (B d : Nat) (w : World) (e : Ending) (w' : World) : Prop := ∃ (g cap : Nat) (p : List Nat), e = .returned (.slice (some ⟨g, 0, none⟩) p.length cap) ∧ Pcs p d ∧ Row w' B g cap p ∧ Below B w w'
theorem mod_len {p b : List Nat} {x y : Nat} (hp : Pcs p (x % y)) (hb : Pcs b y) (hy : 0 < y) : p.length ≤ b.length :=
  hp.len_of_lt (Nat.lt_trans (Nat.mod_lt x hy) (by have := pv_lt b hb.lt; rw [hb.val] at this; exact this))

set_option maxHeartbeats 3200000 in
set_option maxRecDepth 100000 in
theorem gcd_rows (B g cap g' cap' : Nat) (a b : List Nat) (x y : Nat) (w : World) (ha : Row w B g cap a) (hb : Row w B g' cap' b) (hgg : g' ≠ g) (pa : Pcs a x) (pb : Pcs b y) (hla : a.length ≤ 200000) (hlb : b.length ≤ 200000) (hB : B ≤ w.heap.size) :
    Calls Tryd.prog 34 #[.slice (some ⟨g, 0, none⟩) a.length cap, .slice (some ⟨g', 0, none⟩) b.length cap'] w (GcdPost B (Nat.gcd x y) w) := by
  obtain ⟨d, hd⟩ : ∃ d, d = Nat.gcd x y := ⟨_, rfl⟩
  rw [← hd]
  have HD := Lib.hid hd
  have HSB := Lib.hid (short_both B g' cap' b w hb pb.lt)
  have HA := Lib.hid ha
  have HBR := Lib.hid hb
  have HPA := Lib.hid pa
  have HPB := Lib.hid pb
  have HG := Lib.hid hgg
  have hca := ha.len_cap
  have hcb := hb.len_cap
  unfold maxLen at hca hcb
  clear ha hb pa pb hgg hd
  go_enter Tryd.func34, Tryd.ntmps34
  go_wp2_with fail
  refine HSB.out.mono ?_
  rintro e w0 ⟨rfl, hb0⟩
  have HB0 := Lib.hid hb0
  clear hb0
  go_wp2_with fail
  go_loopg [0, 1, 5, 6] y (fun k av bv nv sv  wr => ∃ (g cap g' cap' : Nat) (a b : List Nat) (x : Nat), av = .slice (some ⟨g, 0, none⟩) a.length cap ∧ bv = .slice (some ⟨g', 0, none⟩) b.length cap' ∧ nv = .int .u64 (shN b : Int) ∧ sv = .bool (shB b) ∧ a.length ≤ 200000 ∧ b.length ≤ 200000 ∧ Hid (Pcs a x ∧ Pcs b k ∧ d = Nat.gcd x k ∧ g' ≠ g ∧ Row wr B g cap a ∧ Row wr B g' cap' b ∧ Below B w wr))
  case atStart =>
    exact ⟨g, cap, g', cap', a, b, x, rfl, rfl, rfl, rfl, hla, hlb, Lib.hid ⟨HPA.out, HPB.out, HD.out, HG.out, HA.out.below HB0.out, HBR.out.below HB0.out, HB0.out.mono hB⟩⟩
  case round =>
    obtain ⟨g, cap, g', cap', a, b, x, rfl, rfl, rfl, rfl, hla, hlb, HI⟩ := hrel
    clear HSB HA HBR HPA HPB HG hca hcb HB0
    have hca := HI.out.2.2.2.2.1.len_cap
    have hcb := HI.out.2.2.2.2.2.1.len_cap
    unfold maxLen at hca hcb
    by_cases hl : b.length ≤ 2
    · have hsb : shB b = true := decide_eq_true hl
      have hsn : shN b = gk := by unfold shN; rw [if_pos hl]; exact HI.out.2.1.val
      rw [hsb, hsn]
      clear hsb hsn
      by_cases h0 : gk = 0
      · subst h0
        have HF : Hid (GcdPost B d w (.returned (.slice (some ⟨g, 0, none⟩) a.length cap)) wr) := by
          obtain ⟨i1, i2, i3, i4, i5, i6, i7⟩ := HI.out
          exact Lib.hid ⟨g, cap, a, rfl, by rw [i3, Nat.gcd_zero_right]; exact i1, i5, i7⟩
        clear HI
        go_wp2_with fail
        go_ret
        exact HF.out
      · have hk18 : gk < 1000000000000000000 := by have := pv_two18 HI.out.2.1.lt hl; rw [HI.out.2.1.val] at this; exact this
        have hkz : ((gk : Int) == 0) = false := by rw [beq_eq_false_iff_ne]; omega
        have hk0 : 0 < gk := by omega
        obtain ⟨M, hM⟩ : ∃ M : Nat, M = 18446744073709551616 := ⟨_, rfl⟩
        have hkM : gk < M := by omega
        have HTS := Lib.hid (fun r p (wx : World) (h1 : r < gk) (h2 : p < 1000000000) => takeShort_any r p gk h1 h2 (by omega) wx)
        have HGS := Lib.hid (fun r (wx : World) (h1 : r < gk) => smallGcd_any gk r wx (by omega) (by omega))
        have HK18 := Lib.hid hk18
        clear h0 hM hkM hk18
        obtain ⟨wo, rfl⟩ : ∃ wo : World, wo = wr := ⟨_, rfl⟩
        go_wp2_with fail
        go_loopw [7, 8] (fun rv iv wr2 => ∃ (E : Int) (k r : Nat), iv = .int .i64 E ∧ -1 ≤ E ∧ E < a.length ∧ rv = .int .u64 (r : Int) ∧ r < gk ∧ Hid (E = (k : Int) - 1 ∧ k ≤ a.length ∧ r = pv (a.drop k) % gk ∧ Below wo.heap.size wo wr2)) (fun rv iv _ => (intOf iv + 1).toNat)
        case atStart =>
          refine ⟨(a.length : Int) - 1, a.length, 0, rfl, by omega, by omega, rfl, hk0, Lib.hid ⟨rfl, Nat.le_refl _, by rw [List.drop_length]; simp [pv], Below.refl _ _⟩⟩
        case round =>
          obtain ⟨E, k, r, rfl, hE1, hE2, rfl, hr, HJ⟩ := hrel
          have hEk := HJ.out.1
          by_cases hE : 0 ≤ E
          · obtain ⟨j, rfl⟩ : ∃ j : Nat, E = j := ⟨E.toNat, by omega⟩
            obtain rfl : k = j + 1 := by omega
            have hj : j < a.length := by omega
            have hcell := (HI.out.2.2.2.2.1.below HJ.out.2.2.2).cell j hj
            have hp9 := lt9_at HI.out.1.lt j hj
            have hnx : pv (a.drop j) % gk = (r * 1000000000 + a[j]) % gk := by
              rw [List.drop_eq_getElem_cons hj, pv_consN, HJ.out.2.2.1]
              exact modH_step _ _ _ _
            obtain ⟨p, hp⟩ : ∃ p, p = a[j] := ⟨_, rfl⟩
            rw [← hp] at hcell hp9 hnx
            have HNX := Lib.hid hnx
            have hmk : (r * 1000000000 + p) % gk < gk := Nat.mod_lt _ hk0
            have HC := Lib.hid (HTS.out r p wr hr hp9)
            obtain ⟨m, hm⟩ : ∃ m, m = (r * 1000000000 + p) % gk := ⟨_, rfl⟩
            obtain ⟨q, hq⟩ : ∃ q, q = (r * 1000000000 + p) / gk := ⟨_, rfl⟩
            rw [← hm, ← hq] at HC
            rw [← hm] at HNX hmk
            clear hp hnx hm hq hEk
            go_wp2_with fail
            refine HC.out.mono ?_
            rintro e w3 ⟨rfl, hb3⟩
            have HJ2 : Hid ((j : Int) - 1 = (j : Int) - 1 ∧ j ≤ a.length ∧ m = pv (a.drop j) % gk ∧ Below wo.heap.size wo w3) := Lib.hid ⟨rfl, by omega, HNX.out.symm, HJ.out.2.2.2.trans (hb3.mono HJ.out.2.2.2.size)⟩
            clear hb3 HC HNX
            go_wp2_with fail
            refine ⟨⟨(j : Int) - 1, j, m, rfl, by omega, by omega, rfl, hmk, Lib.hid ⟨rfl, HJ2.out.2⟩⟩, ?_⟩
            clear HJ2
            show ((j : Int) - 1 + 1).toNat < ((j : Int) + 1).toNat
            omega
          · obtain rfl : k = 0 := by omega
            have hr2 : r = x % gk := by rw [HJ.out.2.2.1, List.drop_zero, HI.out.1.val]
            have hdg : Nat.gcd gk r = d := by rw [hr2, gcd_step, ← HI.out.2.2.1]
            have HC := Lib.hid (HGS.out r wr hr)
            rw [hdg] at HC
            have hd18 : d < 1000000000000000000 := by
              have : d ≤ gk := by rw [← hdg]; exact Nat.gcd_le_left _ hk0
              have := HK18.out
              omega
            clear hr2 hdg hEk
            go_wp2_with fail
            refine HC.out.mono ?_
            rintro e w4 ⟨rfl, hb4⟩
            have hrt := Row.two w4 (d % 1000000000) (d / 1000000000)
            have e1 : ((d % 1000000000 : Nat) : Int) = (d : Int) % 1000000000 := by omega
            have e2 : ((d / 1000000000 : Nat) : Int) = (d : Int) / 1000000000 := by omega
            rw [e1, e2] at hrt
            have htr := trim_any w4.heap.size w4.heap.size 2 [d % 1000000000, d / 1000000000] _ hrt
            have h9r : lt9 [d % 1000000000, d / 1000000000] := by
              intro z hz; simp at hz; omega
            have hpr : pv [d % 1000000000, d / 1000000000] = d := by simp [pv]; omega
            have HT := Lib.hid htr
            have hpc := Pcs.of_trim h9r
            rw [hpr] at hpc
            have htk := hrt.take (trimP [d % 1000000000, d / 1000000000]).length (trimP_props _).2.2.2.1
            rw [← (trimP_props [d % 1000000000, d / 1000000000]).2.2.2.2] at htk
            have hbz : Below w4.heap.size w4 (w4.alloc (.cells #[.int .u64 ((d : Int) % 1000000000), .int .u64 ((d : Int) / 1000000000)] 37)) := (Below.refl _ _).alloc (Nat.le_refl _) _
            have hs1 := HI.out.2.2.2.2.2.2.size
            have hs2 := HJ.out.2.2.2.size
            have hs3 := hb4.size
            have HF : Hid (GcdPost B d w (.returned (.slice (some ⟨w4.heap.size, 0, none⟩) (trimP [d % 1000000000, d / 1000000000]).length 2)) (w4.alloc (.cells #[.int .u64 ((d : Int) % 1000000000), .int .u64 ((d : Int) / 1000000000)] 37))) :=
              Lib.hid ⟨_, _, _, rfl, hpc, htk.mono (by omega), (((HI.out.2.2.2.2.2.2.trans (HJ.out.2.2.2.mono (by omega))).trans (hb4.mono (by omega))).trans (hbz.mono (by omega)))⟩
            clear hrt e1 e2 htr h9r hpr hpc htk hbz hb4 HI HJ HTS HGS hs1 hs2 hs3
            go_wp2_with fail
            refine HT.out.mono ?_
            rintro e w5 ⟨rfl, rfl⟩
            go_wp2_with fail
            go_ret
            exact HF.out
    · have hsb : shB b = false := decide_eq_false hl
      obtain ⟨sn, hsn⟩ : ∃ sn, sn = shN b := ⟨_, rfl⟩
      rw [hsb, ← hsn]
      obtain ⟨i1, i2, i3, i4, i5, i6, i7⟩ := HI.out
      have hk0 : 0 < gk := by
        rw [← i2.val]
        exact Nat.lt_of_lt_of_le (Nat.pow_pos (by decide)) (top_big i2.top (by intro e; rw [e] at hl; simp at hl))
      have hs7 := i7.size
      have hrd := reduce_both B g cap g' cap' a b wr i5 i6 i4 (by omega) i1.lt i2.lt i2.top hla (Nat.le_trans hB hs7)
      rw [i1.val, i2.val] at hrd
      have HR := Lib.hid hrd
      have HK0 := Lib.hid hk0
      have HB7 := Lib.hid i7
      have HP2 := Lib.hid i2
      have HGC := Lib.hid (show d = Nat.gcd gk (x % gk) by rw [gcd_step]; exact i3)
      clear hsb hsn i1 i2 i3 i4 i5 i6 i7 hk0 hs7 hrd HI HD
      go_wp2_with fail
      refine HR.out.mono ?_
      rintro e w3 ⟨g1, cap1, p, rfl, hp, hrp, hrb, hne, hb3⟩
      have hlp : p.length ≤ 200000 := Nat.le_trans (mod_len hp HP2.out HK0.out) hlb
      have HSB := Lib.hid (short_both B g1 cap1 p w3 hrp hp.lt)
      have HI2 := Lib.hid (show Pcs b gk ∧ Pcs p (x % gk) ∧ d = Nat.gcd gk (x % gk) ∧ g1 ≠ g' ∧ Row w3 B g' cap' b ∧ Row w3 B g1 cap1 p ∧ Below B w w3 from ⟨HP2.out, hp, HGC.out, hne, hrb, hrp, HB7.out.trans hb3⟩)
      have hcp := hrp.len_cap
      unfold maxLen at hcp
      clear hp hrp hrb hne hb3 HR HB7 HP2 HGC
      go_wp2_with fail
      refine HSB.out.mono ?_
      rintro e w4 ⟨rfl, hb4⟩
      have HI3 := Lib.hid (show Pcs b gk ∧ Pcs p (x % gk) ∧ d = Nat.gcd gk (x % gk) ∧ g1 ≠ g' ∧ Row w4 B g' cap' b ∧ Row w4 B g1 cap1 p ∧ Below B w w4 from
        ⟨HI2.out.1, HI2.out.2.1, HI2.out.2.2.1, HI2.out.2.2.2.1, HI2.out.2.2.2.2.1.below hb4, HI2.out.2.2.2.2.2.1.below hb4, HI2.out.2.2.2.2.2.2.trans (hb4.mono (Nat.le_trans hB HI2.out.2.2.2.2.2.2.size))⟩)
      clear HSB HI2 hb4
      go_wp2_with fail
      go_roundg (x % gk)
      case measure => exact Nat.mod_lt _ HK0.out
      case rel => exact ⟨g', cap', g1, cap1, b, p, gk, rfl, rfl, rfl, rfl, hlb, hlp, HI3⟩

set_option maxHeartbeats 1600000 in
set_option maxRecDepth 100000 in
theorem gcdN_any (a b : Nat) (w : World) (hs : Std w) (ha : (str a).size ≤ 450000) (hb : (str b).size ≤ 450000) :
    Calls Tryd.prog 15 #[.string (str a), .string (str b)] w fun e w' => e = .returned (.string (str (Nat.gcd a b))) ∧ Below w.heap.size w w' := by
  have hgs : (str (Nat.gcd a b)).size ≤ 450000 := by
    by_cases h : a = 0
    · rw [h, Nat.gcd_zero_left]; exact hb
    · exact Nat.le_trans (size_mono (Nat.gcd_le_left b (by omega))) ha
  by_cases h64 : a < 18446744073709551616 ∧ b < 18446744073709551616
  · have HB := Lib.hid (both_yes a b h64.1 h64.2 w)
    have HG := Lib.hid (fun wx => smallGcd_any a b wx h64.1 h64.2)
    have hd64 : Nat.gcd a b < 18446744073709551616 := by
      by_cases h : a = 0
      · rw [h, Nat.gcd_zero_left]; exact h64.2
      · exact Nat.lt_of_le_of_lt (Nat.gcd_le_left b (by omega)) h64.1
    obtain ⟨d, hd⟩ : ∃ d, d = Nat.gcd a b := ⟨_, rfl⟩
    rw [← hd] at HG hd64 ⊢
    have HO := Lib.hid (fun wx hx => of_any d hd64 wx hx)
    clear hgs h64 hd hd64
    go_enter Tryd.func15, Tryd.ntmps15
    go_wp2_with fail
    refine HB.out.mono ?_
    rintro e w1 ⟨rfl, h1⟩
    have H1 := Lib.hid h1
    clear h1
    go_wp2_with fail
    refine (HG.out _).mono ?_
    rintro e w2 ⟨rfl, h2⟩
    have H2 := Lib.hid (H1.out.trans (h2.mono H1.out.size))
    clear h2
    go_wp2_with fail
    refine (HO.out _ (hs.below H2.out)).mono ?_
    rintro e w3 ⟨rfl, h3⟩
    go_wp2_with fail
    go_ret
    exact ⟨rfl, H2.out.trans (h3.mono H2.out.size)⟩
  · have HCUT := Lib.hid (fun wx => cutBoth_any a b wx (by omega) (by omega))
    have HBN := Lib.hid (both_no a b h64 w hs)
    have HGS := Lib.hid hgs
    clear h64 hgs
    go_enter Tryd.func15, Tryd.ntmps15
    go_wp2_with fail
    refine HBN.out.mono ?_
    rintro e w1 ⟨x, y, rfl, hb1⟩
    go_wp2_with fail
    refine (HCUT.out _).mono ?_
    rintro e w3 ⟨g, cap, p, g', cap', q, rfl, hp, hq, hrp, hrq, hgg, hb3⟩
    have hlp := hp.len_le (n := 50000) (by omega)
    have hlq := hq.len_le (n := 50000) (by omega)
    have HG := Lib.hid (gcd_rows _ g cap g' cap' p q a b w3 hrp hrq (by omega) hp hq (by omega) (by omega) hb3.size)
    clear hp hq hrp hrq hgg
    go_wp2_with fail
    refine HG.out.mono ?_
    rintro e w4 ⟨g2, cap2, r, rfl, hr, hrr, hb4⟩
    have hlr := hr.len_le (n := 50000) (by have := HGS.out; omega)
    have HJ := Lib.hid (join_any _ g2 cap2 r _ w4 hrr hr (by omega))
    clear hr hrr
    go_wp2_with fail
    refine HJ.out.mono ?_
    rintro e w5 ⟨rfl, hb5⟩
    go_wp2_with fail
    go_ret
    have s1 := hb1.size
    have s3 := hb3.size
    have s4 := hb4.size
    exact ⟨rfl, (hb1.trans ((hb3.trans hb4).mono s1)).trans (hb5.mono (by omega))⟩

set_option maxHeartbeats 800000 in
theorem lcm_zero (a b : Nat) (w : World) (h : a = 0 ∨ b = 0) :
    Calls Tryd.prog 16 #[.string (str a), .string (str b)] w fun e w' => e = .returned (.string ⟨#[48]⟩) ∧ Below w.heap.size w w' := by
  have ia := is0 a
  have ib := is0 b
  have e0 : ((str a).toList == [48]) = true ∨ (((str a).toList == [48]) = false ∧ ((str b).toList == [48]) = true) := by
    by_cases ha : a = 0
    · exact .inl (by rw [ia]; simpa using ha)
    · exact .inr ⟨by rw [ia]; simpa using ha, by rw [ib]; simpa using (h.resolve_left ha)⟩
  clear ia ib h
  rcases e0 with e0 | ⟨e0, e1⟩
  all_goals
    go_enter Tryd.func16, Tryd.ntmps16
    go_wp2_with fail
    go_ret
    exact ⟨rfl, Below.refl _ _⟩

set_option maxHeartbeats 800000 in
theorem lcm_any (a b : Nat) (w : World) (hs : Std w) (ha : (str a).size ≤ 400000) (hb : (str b).size ≤ 400000) (ha0 : 0 < a) (hb0 : 0 < b) :
    Calls Tryd.prog 16 #[.string (str a), .string (str b)] w fun e w' => e = .returned (.string (str (a / Nat.gcd a b * b))) ∧ Below w.heap.size w w' := by
  have ia := is0 a
  have ib := is0 b
  have e0 : ((str a).toList == [48]) = false := by rw [ia]; simp; omega
  have e1 : ((str b).toList == [48]) = false := by rw [ib]; simp; omega
  have HG := Lib.hid (gcdN_any a b w hs (by omega) (by omega))
  have hg0 : 0 < Nat.gcd a b := Nat.gcd_pos_of_pos_left b ha0
  have hgs : (str (Nat.gcd a b)).size ≤ 450000 := Nat.le_trans (size_mono (Nat.gcd_le_left b ha0)) (by omega)
  have HD := Lib.hid (fun wx hx => dm_any a (Nat.gcd a b) wx hx (by omega) hgs hg0)
  have hqs : (str (a / Nat.gcd a b)).size ≤ 450000 := Nat.le_trans (size_mono (Nat.div_le_self _ _)) (by omega)
  have HM := Lib.hid (fun wx hx => mul_any (a / Nat.gcd a b) b wx hx hqs (by omega))
  obtain ⟨d, hd⟩ : ∃ d, d = Nat.gcd a b := ⟨_, rfl⟩
  rw [← hd] at HG HD HM ⊢
  obtain ⟨q, hq⟩ : ∃ q, q = a / d := ⟨_, rfl⟩
  obtain ⟨r, hr⟩ : ∃ r, r = a % d := ⟨_, rfl⟩
  rw [← hq] at HD HM ⊢
  rw [← hr] at HD
  clear ia ib hg0 hgs hqs hd hq hr ha hb ha0 hb0
  go_enter Tryd.func16, Tryd.ntmps16
  go_wp2_with fail
  refine HG.out.mono ?_
  rintro e w1 ⟨rfl, h1⟩
  have H1 := Lib.hid h1
  clear h1
  go_wp2_with fail
  refine (HD.out _ (hs.below H1.out)).mono ?_
  rintro e w2 ⟨rfl, h2⟩
  have H2 := Lib.hid (H1.out.trans (h2.mono H1.out.size))
  clear h2
  go_wp2_with fail
  refine (HM.out _ (hs.below H2.out)).mono ?_
  rintro e w3 ⟨rfl, h3⟩
  go_wp2_with fail
  go_ret
  exact ⟨rfl, H2.out.trans (h3.mono H2.out.size)⟩
end Go.Proofs.YtfhmdlpjeiockaaDoor
