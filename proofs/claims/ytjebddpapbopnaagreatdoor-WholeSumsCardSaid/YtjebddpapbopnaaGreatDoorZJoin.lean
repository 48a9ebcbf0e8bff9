/-
  The reference of package whole: join, signed.
-/
import Derived.Test.YtjebddpapbopnaaGreatDoorZSplit
namespace Go.Proofs.YtjebddpapbopnaaGreatDoor
open Go.RowKit

theorem canon_more {V : Nat} (hV : 0 < V) {m : List UInt8} (hm : m.all isD = true) : canonL (Lib.decDigits V ++ m) = true := by
  have h1 := canon_dd V
  unfold canonL headOk at h1 ⊢
  rw [Bool.and_eq_true] at h1
  have hne := dd_ne V
  cases hq : Lib.decDigits V with
  | nil => exact absurd hq hne
  | cons c l =>
    rw [hq] at h1
    have hc : c ≠ 48 := by
      intro h48
      have h2 := h1.1
      rw [h48] at h2
      have hl : l = [] := by
        cases l with
        | nil => rfl
        | cons d l => simp at h2
      have h3 := val_dd V
      rw [hq, h48, hl] at h3
      have : val [48] = 0 := by decide
      omega
    rw [List.cons_append, Bool.and_eq_true]
    refine ⟨by simp [hc], ?_⟩
    have h4 := h1.2
    rw [List.all_cons] at h4 ⊢
    rw [List.all_append]
    simp only [Bool.and_eq_true] at h4 ⊢
    exact ⟨h4.1, h4.2, hm⟩
/-- nine digits, with zeros before them -/
def pad9 (r : Nat) (v : ByteArray) : Prop := v.data.toList.all isD = true ∧ val v.data.toList = r
theorem pad9.more {r : Nat} {v : ByteArray} (h : pad9 r v) : pad9 r (⟨#[48]⟩ ++ v) := by
  have e : (⟨#[48]⟩ ++ v : ByteArray).data.toList = 48 :: v.data.toList := by rw [ByteArray.data_append]; simp
  refine ⟨by rw [e, List.all_cons, h.1]; rfl, ?_⟩
  rw [e, val_cons, h.2]; simp
theorem pad9.join {V r : Nat} {v : ByteArray} (hV : 0 < V) (h : pad9 r v) (hv : v.size = 9) : str V ++ v = str (V * 1000000000 + r) := by
  have e : (str V ++ v : ByteArray).data.toList = Lib.decDigits V ++ v.data.toList := by rw [ByteArray.data_append, Array.toList_append, str_list]
  have hc : canonL (str V ++ v : ByteArray).data.toList = true := by rw [e]; exact canon_more hV h.1
  rw [str_of hc, e, val_append, val_dd, h.2, len_list, hv]
theorem drop_pv {p : List Nat} {j : Nat} (hj : j < p.length) : pv (p.drop j) = p[j] + 1000000000 * pv (p.drop (j + 1)) := by
  rw [List.drop_eq_getElem_cons hj]; rfl
theorem itoaZ (z : Int) (w : World) (hs : Std w) (h1 : -9223372036854775808 ≤ z) (h2 : z ≤ 9223372036854775807) :
    Calls Tryz.prog 53 #[.int .i64 z] w fun e w' => e = .returned (.string (zS z)) ∧ Below w.heap.size w w' := by
  have hi := Tryz.strconv_Itoa z h1 h2 w hs.tab
  rw [itoa_zS] at hi
  refine hi.mono ?_
  rintro e w3 ⟨rfl, k, os, hw3⟩
  exact ⟨rfl, by rw [hw3]; exact Lib.below_grow _ _ (Nat.le_refl _) _ _⟩
theorem pv_size {p : List Nat} (h : lt9 p) (hl : p.length ≤ 300000) : (str (pv p)).size ≤ 2700001 := by
  have h1 := pv_lt p h
  rw [← pow9] at h1
  refine Nat.le_trans (str_big (n := 9 * p.length + 1) (Nat.lt_of_lt_of_le h1 (Nat.pow_le_pow_right (by decide) (by omega))) (by omega)) (by omega)
theorem last_pos {p : List Nat} {x : Nat} (h : Pcs p x) (h0 : 0 < p.length) : 0 < p[p.length - 1] := by
  have ht := h.top
  unfold Go.Proofs.YtjebddpapbopnaaGreatDoor.top at ht
  rw [List.getLast?_eq_getElem?, List.getElem?_eq_getElem (by omega)] at ht
  exact Nat.pos_of_ne_zero fun q => ht (by rw [q])
set_option maxHeartbeats 3200000 in
set_option maxRecDepth 100000 in
theorem joinZ_any (a : Option Addr) (ca : Nat) (p : List Nat) (x : Nat) (w : World) (hs : Std w) (ha : Pd w a ca p) (hp : Pcs p x) (hpl : p.length ≤ 300000) :
    Calls Tryz.prog 92 #[.slice a p.length ca] w fun e w' => e = .returned (.string (str x)) ∧ Below w.heap.size w w' := by
  have h1 := ha.lc
  have h2 := ha.lim
  by_cases h0 : p.length = 0
  · have hl : p = [] := List.length_eq_zero_iff.1 h0
    have hx : x = 0 := by rw [← hp.val, hl]; rfl
    have HV := Lib.hid (show str x = ⟨#[48]⟩ by rw [hx]; exact (str_eq 0 (by decide) (by decide)).symm)
    have hb : ((p.length : Int) == 0) = true := by rw [beq_iff_eq]; omega
    clear ha hp hl hx
    obtain ⟨m, hm⟩ : ∃ m, m = p.length := ⟨_, rfl⟩
    rw [← hm] at h0 h1 hpl hb ⊢
    clear hm
    go_enter Tryz.func92, Tryz.ntmps92
    go_wp2_with fail
    go_ret
    exact ⟨by rw [HV.out]; rfl, Below.refl _ _⟩
  · have HP := Lib.hid (fun (wx : World) (hw : Below w.heap.size w wx) i hi => (ha.below hw).at i hi)
    have HL9 := Lib.hid (fun (j : Nat) => getD_lt ha.nine j)
    have HX := Lib.hid hp.val
    have HSZV := Lib.hid (fun (k : Nat) => pv_size (lt9_drop ha.nine k) (by rw [List.length_drop]; omega))
    have HT := Lib.hid (fun wx hw (r : Nat) (hr : r < 1000000000) => itoaZ (r : Int) wx hw (by omega) (by omega))
    have HS := Lib.hid hs
    have htop := last_pos hp (by omega)
    obtain ⟨m, hm⟩ : ∃ m, m = p.length - 1 := ⟨_, rfl⟩
    have hpm : p.length = m + 1 := by omega
    have HST := Lib.hid (show pv (p.drop m) = p.getD m 0 ∧ 0 < pv (p.drop m) by
      have h5 := drop_pv (p := p) (j := m) (by omega)
      have hnil : p.drop (m + 1) = [] := List.drop_of_length_le (by omega)
      rw [hnil] at h5
      have h6 := getD_in (l := p) (k := m) (by omega)
      have h7 : 0 < p[m] := by have := htop; simp only [← hm] at this; exact this
      rw [h6]
      have h8 : pv [] = 0 := rfl
      omega)
    obtain ⟨⟨gt, ht, hct⟩⟩ : Nonempty (Σ' g, (a = some ⟨g, 0, none⟩) ×' w.cell? ⟨g, m, none⟩ = some (.int .i64 ((p.getD m 0 : Nat) : Int))) := by
      obtain ⟨g, e1, e2⟩ := ha.at m (by omega)
      exact ⟨⟨g, e1, e2⟩⟩
    subst ht
    have htl := HL9.out m
    have hbp : ((((m + 1 : Nat) : Int)) == 0) = false := by rw [beq_eq_false_iff_ne]; omega
    have hm1 : ((m + 1 : Nat) : Int) - 1 = (m : Int) := by omega
    have HLEN := Lib.hid hpm
    have hpv : ∀ j, pv (p.drop j) = pv (p.drop j) := fun _ => rfl
    rw [hpm] at h1 hpl ⊢
    clear ha hp hs hm htop h0 hpm hpv
    obtain ⟨tv, htv⟩ : ∃ t, t = p.getD m 0 := ⟨_, rfl⟩
    rw [← htv] at hct htl HST
    have HT1 := Lib.hid (fun wx hw => HT.out wx hw tv htl)
    rw [zS_of_nat] at HT1
    clear htv
    go_enter Tryz.func92, Tryz.ntmps92
    go_wp2_with fail
    refine (HT1.out _ HS.out).mono ?_
    rintro e w1 ⟨rfl, hw1⟩
    have B1 := Lib.hid hw1
    clear hw1
    go_wp2_with fail
    go_loopw [3, 4, 5] (fun sv iv _ wr => ∃ (E : Int) (k V : Nat), sv = .string (str V) ∧ iv = .int .i64 E ∧ -1 ≤ E ∧ E < m ∧ Hid (E = (k : Int) - 1 ∧ k ≤ m ∧ V = pv (p.drop k) ∧ 0 < V) ∧ Hid (Below w.heap.size w wr)) (fun _ iv _ _ => (intOf iv + 1).toNat)
    case atStart => exact ⟨_, m, tv, rfl, rfl, by omega, by omega, ⟨by omega, Nat.le_refl _, HST.out.1.symm, by rw [← HST.out.1]; exact HST.out.2⟩, B1.out⟩
    case round =>
      obtain ⟨E, k, V, rfl, rfl, hE1, hE2, HI, HB⟩ := hrel
      by_cases hk0 : k = 0
      · have hE : E = -1 := by have := HI.out.1; omega
        subst hE
        have HV := Lib.hid (show V = x by rw [HI.out.2.2.1, hk0, List.drop_zero, HX.out])
        go_wp2_with fail
        go_ret
        exact ⟨by rw [← HV.out]; rfl, HB.out⟩
      · obtain ⟨j, rfl⟩ : ∃ j, k = j + 1 := ⟨k - 1, by omega⟩
        obtain rfl : E = (j : Int) := by have := HI.out.1; omega
        have hjm : j < m := by omega
        obtain ⟨g2, hg2, hcj⟩ := HP.out wr HB.out j (by have := HLEN.out; omega)
        have hgg : gt = g2 := by injection hg2 with h; injection h
        subst hgg
        have hrl := HL9.out j
        have HNX := Lib.hid (show V * 1000000000 + p.getD j 0 = pv (p.drop j) by
          rw [drop_pv (by have := HLEN.out; omega), getD_in (by have := HLEN.out; omega), HI.out.2.2.1]; omega)
        obtain ⟨r, hr⟩ : ∃ r, r = p.getD j 0 := ⟨_, rfl⟩
        rw [← hr] at hcj hrl HNX
        have HT2 := Lib.hid (fun wx hw => HT.out wx hw r hrl)
        rw [zS_of_nat] at HT2
        have hsr : (str r).size ≤ 9 := str_big (n := 9) (Nat.lt_of_lt_of_le hrl (by decide)) (by decide)
        have HP0 := Lib.hid (show pad9 r (str r) from ⟨by rw [str_list]; exact all_dd r, val_str r⟩)
        obtain ⟨rs, hrs⟩ : ∃ t, t = str r := ⟨_, rfl⟩
        rw [← hrs] at HT2 hsr HP0
        obtain ⟨vs, hvs⟩ : ∃ t, t = str V := ⟨_, rfl⟩
        have HVS := Lib.hid hvs
        have hvsz : vs.size ≤ 2700001 := by rw [hvs, HI.out.2.2.1]; exact HSZV.out _
        rw [← hvs]
        clear hr hg2 hrs hvs hrl
        go_wp2_with fail
        refine (HT2.out _ (HS.out.below HB.out)).mono ?_
        rintro e w2 ⟨rfl, hw2⟩
        have B2 := Lib.hid (HB.out.trans (hw2.mono HB.out.size))
        clear hw2
        go_wp2_with fail
        go_loop [5] (fun xv => ∃ v : ByteArray, xv = .string v ∧ v.size ≤ 9 ∧ Hid (pad9 r v)) (fun xv => match xv with | .string v => 9 - v.size | _ => 0)
        case atStart => exact ⟨rs, rfl, hsr, HP0⟩
        case round =>
          obtain ⟨v, rfl, hv9, HPV⟩ := hrel
          by_cases hlt : v.size < 9
          · have hlti : (v.size : Int) < 9 := by omega
            have HP2 := Lib.hid HPV.out.more
            have HSZ := Lib.hid (show (⟨#[48]⟩ ++ v : ByteArray).size = v.size + 1 by rw [ByteArray.size_append]; show 1 + _ = _; omega)
            go_wp2_with fail
            all_goals go_round
            case rel => exact ⟨⟨#[48]⟩ ++ v, rfl, by rw [HSZ.out]; omega, HP2⟩
            case measure => show 9 - (⟨#[48]⟩ ++ v : ByteArray).size < 9 - v.size; rw [HSZ.out]; omega
          · have hlti : ¬ (v.size : Int) < 9 := by omega
            have HJ := Lib.hid (show vs ++ v = str (V * 1000000000 + r) by rw [HVS.out]; exact HPV.out.join HI.out.2.2.2 (by omega))
            go_wp2_with fail
            all_goals go_roundw
            case rel => exact ⟨_, j, V * 1000000000 + r, by rw [← HJ.out], rfl, by omega, by omega, ⟨rfl, by omega, HNX.out, by have := HI.out.2.2.2; omega⟩, B2.out⟩
            case measure => simp [intOf] <;> omega
set_option maxHeartbeats 1600000 in
theorem signedZ_any (neg : Bool) (a : Option Addr) (ca : Nat) (p : List Nat) (w : World) (hs : Std w) (ha : Pd w a ca p) (hpl : p.length ≤ 300000) :
    Calls Tryz.prog 63 #[.bool neg, .slice a p.length ca] w fun e w' => e = .returned (.string (zS (if neg = true then -((pv p : Nat) : Int) else ((pv p : Nat) : Int)))) ∧ Below w.heap.size w w' := by
  have HT := Lib.hid (fun wx h => trimZ_any a ca p wx h)
  have HPD := Lib.hid ha
  have hpc := Pcs.of_trim ha.nine
  have htl := (trimP_props p).2.2.2.1
  obtain ⟨t, ht⟩ : ∃ t, t = trimP p := ⟨_, rfl⟩
  have hct := ha.trim
  obtain ⟨x, hx⟩ : ∃ x, x = pv p := ⟨_, rfl⟩
  rw [← hx, ← ht] at hpc
  rw [← ht] at htl hct
  rw [← ht] at HT
  rw [← hx]
  have HJ := Lib.hid (fun wx hw h => joinZ_any a ca t x wx hw h hpc (by omega))
  have HC := Lib.hid hct
  have HS := Lib.hid hs
  have h1 := hct.lc
  have h2 := hct.lim
  have hxsz : (str x).size ≤ 2700001 := by rw [hx]; exact pv_size ha.nine hpl
  have HZ := Lib.hid (show t.length = 0 → x = 0 from fun h => by rw [← hpc.val, List.length_eq_zero_iff.1 h]; rfl)
  have HZ2 := Lib.hid (show 0 < t.length → x ≠ 0 from fun h hx0 => by
    have h3 := pv_zero hpc.top (by rw [hpc.val, hx0])
    rw [h3] at h; simp at h)
  clear ha hpc hct ht hx hs
  obtain ⟨n, hn⟩ : ∃ n, n = t.length := ⟨_, rfl⟩
  rw [← hn] at HT HJ htl h1 HZ HZ2
  clear hn
  cases neg with
  | false =>
    have HV := Lib.hid (show str x = zS (if false = true then -(x : Int) else (x : Int)) by rw [if_neg (by decide), zS_of_nat])
    obtain ⟨V, hV⟩ : ∃ V, V = zS (if false = true then -(x : Int) else (x : Int)) := ⟨_, rfl⟩
    rw [← hV] at HV ⊢
    rw [HV.out] at HJ
    clear hV HZ HZ2
    go_enter Tryz.func63, Tryz.ntmps63
    go_wp2_with fail
    refine (HT.out _ HPD.out).mono ?_
    rintro e w1 ⟨rfl, rfl⟩
    go_wp2_with fail
    refine (HJ.out _ HS.out HC.out).mono ?_
    rintro e w1 ⟨rfl, hw1⟩
    have B1 := Lib.hid hw1
    clear hw1
    go_wp2_with fail
    go_ret
    exact ⟨rfl, B1.out⟩
  | true =>
    by_cases h0 : n = 0
    · have HV := Lib.hid (show str x = zS (if true = true then -(x : Int) else (x : Int)) by rw [if_pos rfl, HZ.out h0]; exact (zS_of_nat 0).symm)
      obtain ⟨V, hV⟩ : ∃ V, V = zS (if true = true then -(x : Int) else (x : Int)) := ⟨_, rfl⟩
      rw [← hV] at HV ⊢
      rw [HV.out] at HJ
      have hgt : ¬ (0 : Int) < (n : Int) := by omega
      clear hV HZ HZ2 h0
      go_enter Tryz.func63, Tryz.ntmps63
      go_wp2_with fail
      refine (HT.out _ HPD.out).mono ?_
      rintro e w1 ⟨rfl, rfl⟩
      go_wp2_with fail
      refine (HJ.out _ HS.out HC.out).mono ?_
      rintro e w1 ⟨rfl, hw1⟩
      have B1 := Lib.hid hw1
      clear hw1
      go_wp2_with fail
      go_ret
      exact ⟨rfl, B1.out⟩
    · have HV := Lib.hid (show ⟨#[45]⟩ ++ str x = zS (if true = true then -(x : Int) else (x : Int)) by rw [if_pos rfl, zS_of_neg x (HZ2.out (by omega))])
      obtain ⟨V, hV⟩ : ∃ V, V = zS (if true = true then -(x : Int) else (x : Int)) := ⟨_, rfl⟩
      obtain ⟨xs, hxs⟩ : ∃ t, t = str x := ⟨_, rfl⟩
      rw [← hV] at HV ⊢
      rw [← hxs] at HV HJ hxsz
      have hgt : (0 : Int) < (n : Int) := by omega
      clear hV HZ HZ2 hxs h0
      go_enter Tryz.func63, Tryz.ntmps63
      go_wp2_with fail
      refine (HT.out _ HPD.out).mono ?_
      rintro e w1 ⟨rfl, rfl⟩
      go_wp2_with fail
      refine (HJ.out _ HS.out HC.out).mono ?_
      rintro e w1 ⟨rfl, hw1⟩
      have B1 := Lib.hid hw1
      clear hw1
      go_wp2_with fail
      go_ret
      exact ⟨by rw [← HV.out]; rfl, B1.out⟩
end Go.Proofs.YtjebddpapbopnaaGreatDoor
