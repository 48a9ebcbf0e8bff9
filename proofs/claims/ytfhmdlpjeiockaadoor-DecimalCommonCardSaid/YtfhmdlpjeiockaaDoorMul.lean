/-
  The contract of multiply.
-/
import Derived.Test.YtfhmdlpjeiockaaDoorShort
namespace Go.Proofs.YtfhmdlpjeiockaaDoor
open Go.RowKit

theorem mul_inner {L : List Nat} {k j c x y P0 pb : Nat} (hk : k + j < L.length) (h : pv L + 1000000000 ^ (k + j) * c = P0 + 1000000000 ^ k * (x * pb)) :
    pv (L.set (k + j) ((c + (L[k + j] + x * y)) % 1000000000)) + 1000000000 ^ (k + j + 1) * ((c + (L[k + j] + x * y)) / 1000000000) = P0 + 1000000000 ^ k * (x * (pb + 1000000000 ^ j * y)) := by
  have h1 := pv_set ((c + (L[k + j] + x * y)) % 1000000000) hk
  have h2 : 1000000000 ^ (k + j + 1) * ((c + (L[k + j] + x * y)) / 1000000000) + 1000000000 ^ (k + j) * ((c + (L[k + j] + x * y)) % 1000000000) = 1000000000 ^ (k + j) * (c + (L[k + j] + x * y)) := by
    rw [Nat.pow_succ, Nat.mul_assoc, ← Nat.mul_add, Nat.div_add_mod]
  have h3 : 1000000000 ^ (k + j) * (c + (L[k + j] + x * y)) = 1000000000 ^ (k + j) * c + 1000000000 ^ (k + j) * L[k + j] + 1000000000 ^ (k + j) * (x * y) := by
    rw [Nat.mul_add, Nat.mul_add]; omega
  have h4 : 1000000000 ^ k * (x * (pb + 1000000000 ^ j * y)) = 1000000000 ^ k * (x * pb) + 1000000000 ^ (k + j) * (x * y) := by
    rw [Nat.mul_add, Nat.mul_add, Nat.pow_add]
    congr 1
    rw [Nat.mul_assoc, Nat.mul_left_comm x]
  rw [h4]; omega
theorem mul_outer {L : List Nat} {k lb c x P0 pb pa : Nat} (hk : k + lb < L.length) (h0 : L[k + lb] = 0) (hP : P0 = pa * pb) (h : pv L + 1000000000 ^ (k + lb) * c = P0 + 1000000000 ^ k * (x * pb)) :
    pv (L.set (k + lb) c) = (pa + 1000000000 ^ k * x) * pb := by
  have h1 := pv_set c hk
  rw [h0] at h1
  rw [Nat.add_mul, Nat.mul_assoc]; omega
theorem mul_carry {c l x y : Nat} (hc : c < 1000000000) (hl : l < 1000000000) (hx : x < 1000000000) (hy : y < 1000000000) : c + (l + x * y) < 1000000000000000000 ∧ (c + (l + x * y)) / 1000000000 < 1000000000 := by
  have h1 : x * y ≤ 999999999 * 999999999 := Nat.mul_le_mul (by omega) (by omega)
  omega

set_option maxHeartbeats 6400000 in
set_option maxRecDepth 100000 in
theorem multiply_any (B g cap g' cap' : Nat) (a b : List Nat) (w : World) (ha : Row w B g cap a) (hb : Row w B g' cap' b) (ha9 : lt9 a) (hb9 : lt9 b) (hla : a.length ≤ 200000) (hlb : b.length ≤ 200000) :
    Calls Tryd.prog 50 #[.slice (some ⟨g, 0, none⟩) a.length cap, .slice (some ⟨g', 0, none⟩) b.length cap'] w fun e w' => ∃ (h cap'' : Nat) (q : List Nat), e = .returned (.slice (some ⟨h, 0, none⟩) q.length cap'') ∧ Pcs q (pv a * pv b) ∧ Row w' w.heap.size h cap'' q ∧ Below w.heap.size w w' := by
  have hlc := ha.len_cap
  have hlc' := hb.len_cap
  unfold maxLen at hlc hlc'
  obtain ⟨i0, hi, hz0, hz1, hz2⟩ := info_parts info64
  have HA := Lib.hid ha
  have HB := Lib.hid hb
  have H9A := Lib.hid ha9
  have H9B := Lib.hid hb9
  clear ha hb ha9 hb9
  go_enter Tryd.func50, Tryd.ntmps50
  go_wp2_with (at_make; refine wpList_make_full _ rfl _ _ 47 rfl w.heap.size 37 i0 (.int .u64 0) 1 Tryd.underlying47 hi hz0 hz1 .i64 .i64 _ _ (a.length + b.length) rfl rfl (by omega) (by omega) (by rw [hz2]; omega) (by unfold maxLen; omega) (Nat.le_refl _) ?_; intro w0 hown0 hgrow0)
  have hbel0 : Below w.heap.size w w0 := (Below.refl _ _).grown hgrow0 (Nat.le_refl _) (by intro k hk; cases hk)
  have hrow0 := Row.made hown0
  clear hown0 hgrow0
  go_wp2_with fail
  go_loopw [6, 7, 8, 9, 10, 19, 26] (fun _ _ _ _ _ iv _ wr => ∃ (k : Nat) (L : List Nat), iv = .int .i64 k ∧ k ≤ a.length ∧ Hid (L.length = a.length + b.length ∧ lt9 L ∧ pv L = pv (a.take k) * pv b ∧ (∀ t (h : t < L.length), k + b.length ≤ t → L[t] = 0)) ∧ Row wr w.heap.size w.heap.size (a.length + b.length) L ∧ Below w.heap.size w wr) (fun _ _ _ _ _ iv _ _ => a.length - (intOf iv).toNat)
  case atStart =>
    refine ⟨0, z0 (a.length + b.length) [], rfl, Nat.zero_le _, ⟨by rw [z0_len]; rfl, ?_, ?_, ?_⟩, hrow0, hbel0⟩
    · unfold z0; rw [List.append_nil]; exact lt9_replicate _
    · unfold z0; rw [List.append_nil, pv_replicate]; simp [pv]
    · intro t ht _; simp [z0]
  case round =>
    obtain ⟨k, L, rfl, hk, HI, hrow, hbel⟩ := hrel
    by_cases hlt : k < a.length
    · have hcell := (HA.out.below hbel).cell k hlt
      have hx9 := lt9_at H9A.out k hlt
      have hts := pv_take_succ hlt
      obtain ⟨x, hx⟩ : ∃ x : Nat, x = a[k] := ⟨_, rfl⟩
      rw [← hx] at hcell hx9 hts
      have HTS := Lib.hid hts
      have HR := Lib.hid hrow
      have HBL := Lib.hid hbel
      clear hx hts hrow hbel
      obtain ⟨wo, rfl⟩ : ∃ wo : World, wo = wr := ⟨_, rfl⟩
      go_wp2_with fail
      go_loopw [8, 9, 10, 26] (fun cv _ _ jv wr => ∃ (j c : Nat) (L : List Nat), jv = .int .i64 j ∧ j ≤ b.length ∧ cv = .int .u64 c ∧ c < 1000000000 ∧ Hid (L.length = a.length + b.length ∧ lt9 L ∧ pv L + 1000000000 ^ (k + j) * c = pv (a.take k) * pv b + 1000000000 ^ k * (x * pv (b.take j)) ∧ (∀ t (h : t < L.length), k + b.length ≤ t → L[t] = 0)) ∧ Row wr w.heap.size w.heap.size (a.length + b.length) L ∧ Below w.heap.size w wr) (fun _ _ _ jv _ => b.length - (intOf jv).toNat)
      case atStart =>
        obtain ⟨h1, h2, h3, h4⟩ := HI
        exact ⟨0, 0, L, rfl, Nat.zero_le _, rfl, by omega, ⟨h1, h2, by rw [h3]; simp [pv], h4⟩, HR.out, HBL.out⟩
      case round =>
        obtain ⟨j, c, L', rfl, hj, rfl, hc, HJ, hrow, hbel⟩ := hrel
        have hL' := HJ.1
        by_cases hjt : j < b.length
        · have hcb := (HB.out.below hbel).cell j hjt
          have hy9 := lt9_at H9B.out j hjt
          have htsb := pv_take_succ hjt
          obtain ⟨y, hy⟩ : ∃ y : Nat, y = b[j] := ⟨_, rfl⟩
          rw [← hy] at hcb hy9 htsb
          have hkj : k + j < L'.length := by omega
          have hcp := hrow.cell (k + j) hkj
          have hfp := hrow.free (k + j)
          have hl9 := lt9_at HJ.2.1 (k + j) hkj
          have hin := mul_inner (y := y) hkj HJ.2.2.1
          obtain ⟨l, hl⟩ : ∃ l : Nat, l = L'[k + j] := ⟨_, rfl⟩
          rw [← hl] at hcp hl9 hin
          have hmc := mul_carry hc hl9 hx9 hy9
          obtain ⟨z, hz⟩ : ∃ z : Nat, z = x * y := ⟨_, rfl⟩
          have hxy : (x : Int) * (y : Int) = (z : Int) := by rw [hz]; simp
          rw [← hz] at hin hmc
          have hm1 := hmc.1
          have HC2 := Lib.hid hmc.2
          have HIN := Lib.hid hin
          have HTB := Lib.hid htsb
          have HR2 := Lib.hid hrow
          have HB2 := Lib.hid hbel
          clear hy htsb hl hmc hz hin hrow hbel hkj
          go_wp2_with fail
          all_goals go_roundw
          case rel =>
            have e := HR2.out.set (k + j) ((c + (l + z)) % 1000000000)
            have e2 : (((c + (l + z)) % 1000000000 : Nat) : Int) = ((c : Int) + ((l : Int) + (z : Int))) % 1000000000 := by omega
            rw [e2] at e
            refine ⟨j + 1, (c + (l + z)) / 1000000000, L'.set (k + j) ((c + (l + z)) % 1000000000), by go_num, by omega, by go_num, HC2.out, ⟨by rw [List.length_set]; exact hL', lt9_set HJ.2.1 (Nat.mod_lt _ (by decide)), ?_, ?_⟩, e, HB2.out.setCell (Nat.le_refl _) _⟩
            · rw [HTB.out]; exact HIN.out
            · intro t ht hkt
              rw [List.getElem_set_ne (by omega)]
              exact HJ.2.2.2 t (by rw [List.length_set] at ht; exact ht) hkt
          case measure => simp [intOf] <;> omega
        · obtain rfl : j = b.length := by omega
          have hkj : k + b.length < L'.length := by omega
          have hl0 := HJ.2.2.2 (k + b.length) hkj (Nat.le_refl _)
          have hcp := hrow.cell (k + b.length) hkj
          rw [hl0] at hcp
          have hfp := hrow.free (k + b.length)
          have heq := HJ.2.2.1
          rw [List.take_length] at heq
          have hou := mul_outer hkj hl0 rfl heq
          rw [← HTS.out] at hou
          have HOU := Lib.hid hou
          have HR2 := Lib.hid hrow
          have HB2 := Lib.hid hbel
          clear hl0 heq hou hrow hbel hkj
          go_wp2_with fail
          all_goals go_roundw
          case rel =>
            refine ⟨k + 1, L'.set (k + b.length) c, by go_num, by omega, ⟨by rw [List.length_set]; exact hL', lt9_set HJ.2.1 hc, HOU.out, ?_⟩, HR2.out.set (k + b.length) c, HB2.out.setCell (Nat.le_refl _) _⟩
            intro t ht hkt
            rw [List.getElem_set_ne (by omega)]
            exact HJ.2.2.2 t (by rw [List.length_set] at ht; exact ht) (by omega)
          case measure => simp [intOf] <;> omega
    · obtain rfl : k = a.length := by omega
      have hpv := HI.2.2.1
      rw [List.take_length] at hpv
      have ht := trim_any w.heap.size w.heap.size (a.length + b.length) L wr hrow
      rw [HI.1] at ht
      have HT := Lib.hid ht
      have HPV := Lib.hid hpv
      have HR2 := Lib.hid hrow
      have HB2 := Lib.hid hbel
      clear ht hpv hrow hbel
      go_wp2_with fail
      refine HT.out.mono ?_
      rintro e w1 ⟨rfl, rfl⟩
      go_wp2_with fail
      go_ret
      refine ⟨w.heap.size, a.length + b.length, trimP L, rfl, ?_, ?_, HB2.out⟩
      · rw [← HPV.out]; exact Pcs.of_trim HI.2.1
      · have := HR2.out.take (trimP L).length (trimP_props _).2.2.2.1
        rw [← (trimP_props L).2.2.2.2] at this; exact this
end Go.Proofs.YtfhmdlpjeiockaaDoor
