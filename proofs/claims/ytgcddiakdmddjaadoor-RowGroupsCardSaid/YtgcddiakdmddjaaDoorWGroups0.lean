/-
  Rows of small numbers: what RowGroups reckons with.
-/
import Derived.Test.YtgcddiakdmddjaaDoorWContents0
import Derived.Test.YtgcddiakdmddjaaDoorWUnits
import Derived.Test.YtgcddiakdmddjaaDoorWWit
namespace Go.Proofs.YtgcddiakdmddjaaDoor
open Go.RowKit

/-- a slice of int8 -/
def Rd8 (w : World) (a : Option Addr) (n cap : Nat) (l : List Int) : Prop :=
  l.length = n ∧ n ≤ cap ∧ cap ≤ maxLen ∧ (∀ z ∈ l, -128 ≤ z ∧ z ≤ 127) ∧
  (l = [] ∨ ∃ b off, a = some ⟨b, off, none⟩ ∧ b < w.heap.size ∧ ∀ i (h : i < l.length), w.cell? ⟨b, off + i, none⟩ = some (.int .i8 (l[i]'h)))
theorem Rd8.below {w w' : World} {a : Option Addr} {n cap : Nat} {l : List Int} (h : Rd8 w a n cap l) (hb : Below w.heap.size w w') : Rd8 w' a n cap l := by
  obtain ⟨h1, h2, h3, h4, h5⟩ := h
  refine ⟨h1, h2, h3, h4, ?_⟩
  rcases h5 with h5 | ⟨b, off, e, hlt, hc⟩
  · exact .inl h5
  · exact .inr ⟨b, off, e, Nat.lt_of_lt_of_le hlt hb.size, fun i hi => by rw [hb.cell (p := ⟨b, off + i, none⟩) hlt]; exact hc i hi⟩
theorem Rd8.cap {w : World} {a : Option Addr} {n cap : Nat} {l : List Int} (h : Rd8 w a n cap l) : n ≤ cap ∧ cap ≤ 9223372036854775807 := by
  have := h.2.2.1; unfold maxLen at this; exact ⟨h.2.1, this⟩
theorem Rd8.nil (w : World) : Rd8 w none 0 0 [] := ⟨rfl, Nat.le_refl _, by unfold maxLen; omega, by simp, .inl rfl⟩
theorem Rd8.of_open {w : World} {x : Addr} {l c : Nat} {zs : List Int} (hl : l ≤ c) (hm : c ≤ maxLen) (hz : zs.length = c) (hcell : ∀ i, i < zs.length → w.cell? (x.add i) = some (.int .i8 (zs.getD i 0))) (hw : ∀ n ∈ zs, (Lit.int .i8 n).wf = true) : Rd8 w (some x) l c (zs.take l) := by
  refine ⟨by rw [List.length_take]; omega, hl, hm, fun z h => bounds_i8 (hw z (List.mem_of_mem_take h)), ?_⟩
  by_cases h0 : l = 0
  · left; rw [h0]; rfl
  · right
    obtain ⟨b, off, spot⟩ := x
    have hc := hcell 0 (by omega)
    have hspot : spot = none := by simpa [Addr.add] using World.cell?_spot hc
    subst hspot
    refine ⟨b, off, rfl, ?_, fun i hi => ?_⟩
    · apply Nat.lt_of_not_le; intro hle
      rw [Lib.add_plain] at hc
      unfold World.cell? at hc
      simp only [Array.getElem?_eq_none hle] at hc; simp at hc
    · have hi2 : i < zs.length := by rw [List.length_take] at hi; omega
      have h := hcell i hi2
      rw [Lib.add_plain] at h
      rw [h, List.getElem_take, List.getD_eq_getElem?_getD, List.getElem?_eq_getElem hi2]; rfl

/-- numbers up to b -/
def Sm (l : List Int) (b : Int) : Prop := ∀ z ∈ l, -b ≤ z ∧ z ≤ b
theorem Sm.at {l : List Int} {b : Int} (h : Sm l b) (hb : 0 ≤ b) (k : Nat) : -b ≤ l[k]?.getD 0 ∧ l[k]?.getD 0 ≤ b := by
  by_cases hk : k < l.length
  · rw [List.getElem?_eq_getElem hk]; exact h _ (List.getElem_mem hk)
  · rw [List.getElem?_eq_none (by omega)]; show -b ≤ (0 : Int) ∧ (0 : Int) ≤ b; omega
theorem Sm.ok {l : List Int} {b : Int} (h : Sm l b) (hb : b ≤ 1000000000) (hl : l.length ≤ 64) : okB l = true :=
  okB_good hl (List.all_eq_true.2 fun z hz => entB_iff.2 (by have := h z hz; omega))
theorem plus_ok {xs ys : List Int} (hl : xs.length = ys.length) (h64 : xs.length ≤ 64) (sx : Sm xs 128) (sy : Sm ys 128) : plusV 1 xs ys = plusL 1 xs ys ∧ plusE 1 xs ys = 0 := by
  have hp : pairE xs ys = 0 := by unfold pairE; rw [if_pos (sx.ok (by decide) h64), if_pos (sy.ok (by decide) (by omega)), if_pos hl]
  have hs : Sm (plusL 1 xs ys) 256 := by
    intro z hz
    obtain ⟨k, _, rfl⟩ := List.mem_map.1 hz
    have h1 := sx.at (by decide) k
    have h2 := sy.at (by decide) k
    show -256 ≤ _ + 1 * _ ∧ _ + 1 * _ ≤ _
    omega
  have hok := hs.ok (by decide) (by simp [plusL]; omega)
  unfold plusV plusE chkV
  rw [if_pos hp, if_pos hp, if_pos hok, errR_ok hok]; exact ⟨rfl, rfl⟩
theorem plus_comm {xs ys : List Int} (hl : xs.length = ys.length) : plusL 1 xs ys = plusL 1 ys xs := by
  unfold plusL; rw [hl]
  exact List.map_congr_left fun k _ => by omega
theorem neg_at (xs : List Int) (k : Nat) : (xs.map (fun z => -z))[k]?.getD 0 = -(xs[k]?.getD 0) := by
  rw [List.getElem?_map]; cases xs[k]? <;> simp
theorem zero_at (n k : Nat) : (List.replicate n (0 : Int))[k]?.getD 0 = 0 := by
  rw [List.getElem?_replicate]; split <;> rfl
theorem plus_neg (xs : List Int) : plusL 1 xs (xs.map (fun z => -z)) = List.replicate xs.length 0 := by
  refine List.eq_replicate_iff.2 ⟨by simp [plusL], fun z hz => ?_⟩
  obtain ⟨k, _, rfl⟩ := List.mem_map.1 hz
  rw [neg_at]; omega
theorem plusL_at (s : Int) (xs ys : List Int) (i : Nat) (h : i < (plusL s xs ys).length) : (plusL s xs ys)[i] = xs[i]?.getD 0 + s * ys[i]?.getD 0 := by
  simp [plusL]
theorem plus_zero (xs : List Int) : plusL 1 xs (List.replicate xs.length 0) = xs := by
  refine List.ext_getElem (by simp [plusL]) fun i h1 h2 => ?_
  rw [plusL_at, zero_at, List.getElem?_eq_getElem h2]; simp
theorem sumTo_congr {f g : Nat → Int} (h : ∀ k, f k = g k) (n : Nat) : sumTo f n = sumTo g n := by
  induction n with
  | zero => rfl
  | succ n ih => show sumTo f n + f n = sumTo g n + g n; rw [ih, h n]
theorem sumTo_mul (c : Int) (f : Nat → Int) (n : Nat) : sumTo (fun k => c * f k) n = c * sumTo f n := by
  induction n with
  | zero => show (0 : Int) = c * 0; rw [Int.mul_zero]
  | succ n ih => show sumTo _ n + c * f n = c * (sumTo f n + f n); rw [ih, Int.mul_add]
theorem sumTo_bd {f : Nat → Int} {c : Int} (h : ∀ k, -c ≤ f k ∧ f k ≤ c) (n : Nat) : -(c * n) ≤ sumTo f n ∧ sumTo f n ≤ c * n := by
  induction n with
  | zero => show -(c * ((0 : Nat) : Int)) ≤ (0 : Int) ∧ (0 : Int) ≤ c * ((0 : Nat) : Int); simp
  | succ n ih =>
    have hk := h n
    have e : c * ((n + 1 : Nat) : Int) = c * (n : Int) + c := by push_cast; rw [Int.mul_add, Int.mul_one]
    rw [e]
    show -(_) ≤ sumTo f n + f n ∧ sumTo f n + f n ≤ _
    omega
theorem dot_comm {xs ys : List Int} (hl : xs.length = ys.length) : dotI xs ys = dotI ys xs := by
  unfold dotI; rw [hl]; exact sumTo_congr (fun k => Int.mul_comm _ _) _
theorem dot_scale (xs ys : List Int) (c : Int) : dotI (xs.map (c * ·)) ys = c * dotI xs ys := by
  unfold dotI
  rw [List.length_map, ← sumTo_mul]
  refine sumTo_congr (fun k => ?_) _
  rw [List.getElem?_map]
  cases xs[k]? with
  | none => simp
  | some x => show c * x * _ = c * (x * _); rw [Int.mul_assoc]
theorem mul_sm {a b p q : Int} (hp : 0 ≤ p) (h1 : -p ≤ a) (h2 : a ≤ p) (h3 : -q ≤ b) (h4 : b ≤ q) : -(p * q) ≤ a * b ∧ a * b ≤ p * q := by
  have ha : a.natAbs ≤ p.natAbs := by omega
  have hb : b.natAbs ≤ q.natAbs := by omega
  have hm := Nat.mul_le_mul ha hb
  rw [← Int.natAbs_mul, ← Int.natAbs_mul] at hm
  have hpq : 0 ≤ p * q := Int.mul_nonneg hp (by omega)
  omega
theorem dot_sm {xs ys : List Int} {p q : Int} (sx : Sm xs p) (sy : Sm ys q) (hp : 0 ≤ p) (hq : 0 ≤ q) : -(p * q * xs.length) ≤ dotI xs ys ∧ dotI xs ys ≤ p * q * xs.length := by
  unfold dotI
  exact sumTo_bd (fun k => mul_sm hp (sx.at hp k).1 (sx.at hp k).2 (sy.at hq k).1 (sy.at hq k).2) _
theorem dot_ok {xs ys : List Int} (ox : okB xs = true) (oy : okB ys = true) (hl : xs.length = ys.length) (hb : entB (dotI xs ys) = true) : dotV xs ys = dotI xs ys ∧ dotE xs ys = 0 := by
  have hp : pairE xs ys = 0 := by unfold pairE; rw [if_pos ox, if_pos oy, if_pos hl]
  unfold dotV dotE
  rw [if_pos hp, if_pos hp]; exact ⟨sumV_ok hb, sumE_ok hb⟩
theorem scale_ok {zs : List Int} {k : Int} (ok : okB zs = true) (hk : entB k = true) (om : okB (zs.map (k * ·)) = true) : scaleV zs k = zs.map (k * ·) ∧ scaleE zs k = 0 := by
  rcases scale_rel (k := k) ok with ⟨_, h2, h3⟩ | ⟨h1, _, _⟩
  · exact ⟨h2, h3⟩
  · unfold scOk at h1; rw [hk, om] at h1; cases zeroB zs <;> simp at h1
theorem neg_neg_map (zs : List Int) : (zs.map (fun z => -z)).map (fun z => -z) = zs := by
  rw [List.map_map]
  have : ((fun z : Int => -z) ∘ fun z => -z) = id := by funext z; show - -z = z; omega
  rw [this, List.map_id]
theorem neg_sgn : ∀ zs : List Int, zeroB zs = true ∨ sgnL (zs.map (fun z => -z)) = - sgnL zs
  | [] => .inl rfl
  | z :: l => by
    have e1 : sgnL (z :: l) = if z < 0 then -1 else if 0 < z then 1 else sgnL l := rfl
    have e2 : sgnL ((z :: l).map (fun z => -z)) = if -z < 0 then -1 else if 0 < -z then 1 else sgnL (l.map (fun z => -z)) := rfl
    rw [e1, e2]
    by_cases h1 : z < 0
    · right; rw [if_pos h1, if_neg (by omega), if_pos (by omega)]; rfl
    · by_cases h2 : 0 < z
      · right; rw [if_neg h1, if_pos h2, if_pos (by omega)]
      · have hz : z = 0 := by omega
        subst hz
        rcases neg_sgn l with h | h
        · left; show ((0 : Int) == 0 && zeroB l) = true; rw [h]; rfl
        · right; rw [if_neg (by omega), if_neg (by omega), if_neg (by omega), if_neg (by omega)]; exact h
theorem neg_zero {zs : List Int} (h : zeroB zs = true) : zs.map (fun z => -z) = zs := by
  have e := zeroB_all h
  rw [e]; simp
theorem norm_neg (zs : List Int) : normL (zs.map (fun z => -z)) = normL zs := by
  rcases neg_sgn zs with h | h
  · rw [neg_zero h]
  · unfold normL
    rcases sgnL_ways zs with hs | hs
    · rw [h, hs, if_neg (by decide), if_pos rfl]
    · rw [h, hs, if_pos rfl, if_neg (by decide), neg_neg_map]

set_option maxHeartbeats 400000 in
theorem zeroRow_any (N : Nat) (w : World) (hN : N ≤ 64) : Calls Tryd.prog 15 #[.int .i64 (N : Int)] w (RowPost (List.replicate N 0) 0 w) := by
  refine (zero_good N w hN).mono ?_
  rintro e w' ⟨rfl, hr, hb⟩
  have hrd := hr.rd (rep_bd N)
  rw [List.length_replicate] at hrd
  exact .mk hrd hb

set_option maxHeartbeats 1600000 in
set_option maxRecDepth 100000 in
theorem mk_any (a : Option Addr) (n cap : Nat) (zs : List Int) (w : World) (h : Rd8 w a n cap zs) (h8 : n ≤ 8) :
    Calls Tryd.prog 45 #[.slice a n cap] w fun e w' => ∃ a n cap, e = .returned (.slice a n cap) ∧ Rd w' a n cap zs ∧ Below w.heap.size w w' := by
  have hc := h.cap
  have hl := h.1
  obtain ⟨i0, hi, hz0, hz1, hz2⟩ := info_parts infoI
  have HX := Lib.hid (show ∀ i (hi : i < zs.length), ∃ b off, a = some ⟨b, off, none⟩ ∧ b < w.heap.size ∧ w.cell? ⟨b, off + i, none⟩ = some (.int .i8 (zs[i]'hi)) by
    intro i hi
    rcases h.2.2.2.2 with he | ⟨b, off, e, hb, hcell⟩
    · have e' : zs.length = 0 := by rw [he]; rfl
      omega
    · exact ⟨b, off, e, hb, hcell i hi⟩)
  have HSM := Lib.hid h.2.2.2.1
  have HL := Lib.hid hl
  clear h hl
  go_enter Tryd.func45, Tryd.ntmps45
  go_wp2_with fail
  go_loopw [3, 4] (fun v iv wr => ∃ (i : Nat) (vo : Option Addr) (vc : Nat), iv = .int .i64 i ∧ i ≤ n ∧ v = .slice vo i vc ∧ wr.ownsRow w.heap.size 3 1 (.slice vo i vc) i (ci (zs.take i)) ∧ Below w.heap.size w wr) (fun _ iv _ => n - (intOf iv).toNat)
  case atStart => exact ⟨0, _, 0, rfl, Nat.zero_le _, rfl, own_empty w 3, below_alloc _⟩
  case round =>
    obtain ⟨i, vo, vc, rfl, hiL, rfl, hown, hbel⟩ := hrel
    have HO3 := Lib.hid hown
    have HBL := Lib.hid hbel
    have hs3 := hbel.size
    clear hown hbel
    by_cases hlt : i < n
    · have hil : i < zs.length := by rw [HL.out]; exact hlt
      obtain ⟨b, off, rfl, hbw, hc1⟩ := HX.out i hil
      have hcl : wr.cell? ⟨b, off + i, none⟩ = some (.int .i8 (zs[i]'hil)) := (HBL.out.cell (p := ⟨b, off + i, none⟩) hbw).trans hc1
      have hze := HSM.out _ (List.getElem_mem hil)
      have hnx : zs.take (i + 1) = zs.take i ++ [zs[i]] := List.take_succ_eq_append_getElem hil
      obtain ⟨z, hz⟩ : ∃ z, z = zs[i] := ⟨_, rfl⟩
      rw [← hz] at hcl hze hnx
      have HNX := Lib.hid hnx
      have h88 : i < 8 := by omega
      clear hz hnx hc1
      have hwr := in64 (x := z) (by omega) (by omega)
      go_wp2_with (at_builtin; refine wpList_append_own _ rfl _ _ 23 rfl w.heap.size 3 i0 (.int .i64 0) 1 8 Tryd.underlying23 hi hz0 hz1 hz2 rfl (by decide) _ _ _ rfl (World.ownsRow.alloc HO3.out _) ⟨wr.heap.size, 0, none⟩ 1 1 [.int .i64 z] rfl rfl (cell_one_new _ _ _) (by simp [Value.oneCell']) (by unfold maxLen; omega) (by omega) (by simp; omega) ?_; intro v' w4 hown' hgrow _)
      · skip
        obtain ⟨g', cap', rfl⟩ := own_someI hown' (by omega)
        have HO4 := Lib.hid (show w4.ownsRow w.heap.size 3 1 (.slice (some ⟨g', 0, none⟩) (i + 1) cap') (i + 1) (ci (zs.take (i + 1))) by rw [HNX.out, ci_append]; exact hown')
        have HB4 := Lib.hid (show Below w.heap.size w w4 from (HBL.out.alloc hs3 _).grown hgrow (by simp; omega) (by intro q hq; exact (World.ownsRow.lt HO3.out q hq).1))
        clear hown' hgrow
        go_wp2_with fail
        go_roundw
        case rel => exact ⟨i + 1, _, _, by go_num, by omega, rfl, HO4.out, HB4.out⟩
        case measure => simp [intOf]; omega
    · obtain rfl : i = n := by omega
      have hown := HO3.out
      rw [List.take_of_length_le (by rw [HL.out]; omega)] at hown
      obtain ⟨a2, c2, e2, hrd⟩ := Rd.of_owns hown HL.out (fun z hz => by have := HSM.out z hz; omega)
      cases e2
      have HRD := Lib.hid hrd
      clear hown hrd
      go_wp2_with fail
      go_ret
      exact ⟨_, _, _, rfl, HRD.out, HBL.out⟩

def fitL (ys : List Int) (n : Nat) : List Int := (List.range n).map fun i => ys[i]?.getD 0
theorem fit_len (ys : List Int) (n : Nat) : (fitL ys n).length = n := by simp [fitL]
theorem fit_succ (ys : List Int) (i : Nat) : fitL ys (i + 1) = fitL ys i ++ [ys[i]?.getD 0] := by unfold fitL; rw [List.range_succ]; simp
theorem fit_sm {ys : List Int} {b : Int} (h : Sm ys b) (hb : 0 ≤ b) (n : Nat) : Sm (fitL ys n) b := by
  intro z hz
  obtain ⟨k, _, rfl⟩ := List.mem_map.1 hz
  exact h.at hb k
set_option maxHeartbeats 3200000 in
set_option maxRecDepth 100000 in
theorem fit_any (a : Option Addr) (n cap : Nat) (ys : List Int) (a2 : Option Addr) (n2 cap2 : Nat) (w : World) (h : Rd w a n cap ys) (hc2 : n2 ≤ cap2 ∧ cap2 ≤ 9223372036854775807) (h8 : n2 ≤ 8) (hs : Sm ys 128) :
    Calls Tryd.prog 46 #[.slice a n cap, .slice a2 n2 cap2] w fun e w' => ∃ a n cap, e = .returned (.slice a n cap) ∧ Rd w' a n cap (fitL ys n2) ∧ Below w.heap.size w w' := by
  have hc := h.cap
  have hl := h.1
  obtain ⟨i0, hi, hz0, hz1, hz2⟩ := info_parts infoI
  have HX := Lib.hid (show ∀ i (hi : i < ys.length), ∃ b off, a = some ⟨b, off, none⟩ ∧ b < w.heap.size ∧ w.cell? ⟨b, off + i, none⟩ = some (.int .i64 (ys[i]'hi)) by
    intro i hi
    rcases h.2.2.2.2 with he | ⟨b, off, e, hb, hcell⟩
    · have e' : ys.length = 0 := by rw [he]; rfl
      omega
    · exact ⟨b, off, e, hb, hcell i hi⟩)
  have HSM := Lib.hid hs
  have HL := Lib.hid hl
  clear h hl hs
  go_enter Tryd.func46, Tryd.ntmps46
  go_wp2_with fail
  go_loopw [5, 6] (fun v iv wr => ∃ (i : Nat) (vo : Option Addr) (vc : Nat), iv = .int .i64 i ∧ i ≤ n2 ∧ v = .slice vo i vc ∧ wr.ownsRow w.heap.size 3 1 (.slice vo i vc) i (ci (fitL ys i)) ∧ Below w.heap.size w wr) (fun _ iv _ => n2 - (intOf iv).toNat)
  case atStart => exact ⟨0, _, 0, rfl, Nat.zero_le _, rfl, own_empty w 3, below_alloc _⟩
  case round =>
    obtain ⟨i, vo, vc, rfl, hiL, rfl, hown, hbel⟩ := hrel
    have HO3 := Lib.hid hown
    have HBL := Lib.hid hbel
    have hs3 := hbel.size
    clear hown hbel
    by_cases hlt : i < n2
    · by_cases hin : i < n
      · have hil : i < ys.length := by rw [HL.out]; exact hin
        obtain ⟨b, off, rfl, hbw, hc1⟩ := HX.out i hil
        have hcl : wr.cell? ⟨b, off + i, none⟩ = some (.int .i64 (ys[i]'hil)) := (HBL.out.cell (p := ⟨b, off + i, none⟩) hbw).trans hc1
        have hnx : fitL ys (i + 1) = fitL ys i ++ [ys[i]] := by rw [fit_succ, List.getElem?_eq_getElem hil]; rfl
        obtain ⟨z, hz⟩ : ∃ z, z = ys[i] := ⟨_, rfl⟩
        rw [← hz] at hcl hnx
        have HNX := Lib.hid hnx
        clear hz hnx hc1
        go_wp2_with (at_builtin; refine wpList_append_own _ rfl _ _ 23 rfl w.heap.size 3 i0 (.int .i64 0) 1 8 Tryd.underlying23 hi hz0 hz1 hz2 rfl (by decide) _ _ _ rfl (World.ownsRow.alloc HO3.out _) ⟨wr.heap.size, 0, none⟩ 1 1 [.int .i64 z] rfl rfl (cell_one_new _ _ _) (by simp [Value.oneCell']) (by unfold maxLen; omega) (by omega) (by simp; omega) ?_; intro v' w4 hown' hgrow _)
        · skip
          obtain ⟨g', cap', rfl⟩ := own_someI hown' (by omega)
          have HO4 := Lib.hid (show w4.ownsRow w.heap.size 3 1 (.slice (some ⟨g', 0, none⟩) (i + 1) cap') (i + 1) (ci (fitL ys (i + 1))) by rw [HNX.out, ci_append]; exact hown')
          have HB4 := Lib.hid (show Below w.heap.size w w4 from (HBL.out.alloc hs3 _).grown hgrow (by simp; omega) (by intro q hq; exact (World.ownsRow.lt HO3.out q hq).1))
          clear hown' hgrow
          go_wp2_with fail
          go_roundw
          case rel => exact ⟨i + 1, _, _, by go_num, by omega, rfl, HO4.out, HB4.out⟩
          case measure => simp [intOf]; omega
      · have hnx : fitL ys (i + 1) = fitL ys i ++ [0] := by rw [fit_succ, List.getElem?_eq_none (by rw [HL.out]; omega)]; rfl
        have HNX := Lib.hid hnx
        clear hnx
        go_wp2_with (at_builtin; refine wpList_append_own _ rfl _ _ 23 rfl w.heap.size 3 i0 (.int .i64 0) 1 8 Tryd.underlying23 hi hz0 hz1 hz2 rfl (by decide) _ _ _ rfl (World.ownsRow.alloc HO3.out _) ⟨wr.heap.size, 0, none⟩ 1 1 [.int .i64 0] rfl rfl (cell_one_new _ _ _) (by simp [Value.oneCell']) (by unfold maxLen; omega) (by omega) (by simp; omega) ?_; intro v' w4 hown' hgrow _)
        · skip
          obtain ⟨g', cap', rfl⟩ := own_someI hown' (by omega)
          have HO4 := Lib.hid (show w4.ownsRow w.heap.size 3 1 (.slice (some ⟨g', 0, none⟩) (i + 1) cap') (i + 1) (ci (fitL ys (i + 1))) by rw [HNX.out, ci_append]; exact hown')
          have HB4 := Lib.hid (show Below w.heap.size w w4 from (HBL.out.alloc hs3 _).grown hgrow (by simp; omega) (by intro q hq; exact (World.ownsRow.lt HO3.out q hq).1))
          clear hown' hgrow
          go_wp2_with fail
          go_roundw
          case rel => exact ⟨i + 1, _, _, by go_num, by omega, rfl, HO4.out, HB4.out⟩
          case measure => simp [intOf]; omega
    · obtain rfl : i = n2 := by omega
      have hown := HO3.out
      obtain ⟨a3, c3, e3, hrd⟩ := Rd.of_owns hown (fit_len _ _) (fun z hz => by have := fit_sm HSM.out (by decide) i z hz; omega)
      cases e3
      have HRD := Lib.hid hrd
      clear hown hrd
      go_wp2_with fail
      go_ret
      exact ⟨_, _, _, rfl, HRD.out, HBL.out⟩
end Go.Proofs.YtgcddiakdmddjaaDoor
