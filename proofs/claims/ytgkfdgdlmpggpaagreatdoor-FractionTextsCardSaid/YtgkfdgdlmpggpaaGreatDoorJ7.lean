/-
  Texts of one seat, joined: Add Sub.
-/
import Derived.Test.YtgkfdgdlmpggpaaGreatDoorJ3
import Derived.Test.YtgkfdgdlmpggpaaGreatDoorJ4
namespace Go.Proofs.YtgkfdgdlmpggpaaGreatDoor
open Go.RowKit

theorem add_step {L : List Nat} {k T : Nat} (hk : k < L.length) (h0 : L[k] = 0) :
    pv (L.set k (T % 1000000000)) + 1000000000 ^ (k + 1) * (T / 1000000000) = pv L + 1000000000 ^ k * T := by
  have h1 := pv_set (T % 1000000000) hk
  rw [h0] at h1
  have h2 : 1000000000 ^ (k + 1) * (T / 1000000000) + 1000000000 ^ k * (T % 1000000000) = 1000000000 ^ k * T := by
    rw [Nat.pow_succ, Nat.mul_assoc, ← Nat.mul_add, Nat.div_add_mod]
  omega

set_option maxHeartbeats 6400000 in
set_option maxRecDepth 100000 in
theorem add_ge (B g cap g' cap' : Nat) (a b : List Nat) (w : World) (ha : Row w B g cap a) (hb : Row w B g' cap' b) (ha9 : lt9 a) (hb9 : lt9 b) (hla : a.length ≤ 200000) (hl : b.length ≤ a.length) :
    Calls Tryz.prog 175 #[.slice (some ⟨g, 0, none⟩) a.length cap, .slice (some ⟨g', 0, none⟩) b.length cap'] w fun e w' => ∃ (h c : Nat) (q : List Nat), e = .returned (.slice (some ⟨h, 0, none⟩) q.length c) ∧ Pcs q (pv a + pv b) ∧ Row w' w.heap.size h c q ∧ Below w.heap.size w w' := by
  have hlc := ha.len_cap
  have hlc' := hb.len_cap
  unfold maxLen at hlc hlc'
  obtain ⟨i0, hi, hz0, hz1, hz2⟩ := info_parts info64
  have HA := Lib.hid ha
  have HB := Lib.hid hb
  have H9A := Lib.hid ha9
  have H9B := Lib.hid hb9
  clear ha hb ha9 hb9
  go_enter Tryz.func175, Tryz.ntmps175
  go_wp2_with (at_make; refine wpList_make_full _ rfl _ _ 161 rfl w.heap.size 135 i0 (.int .u64 0) 1 Tryz.underlying161 hi hz0 hz1 .i64 .i64 _ _ (a.length + 1) rfl rfl (by omega) (by omega) (by rw [hz2]; omega) (by unfold maxLen; omega) (Nat.le_refl _) ?_; intro w0 hown0 hgrow0)
  have hbel0 : Below w.heap.size w w0 := (Below.refl _ _).grown hgrow0 (Nat.le_refl _) (by intro k hk; cases hk)
  have hrow0 := Row.made hown0
  clear hown0 hgrow0
  go_wp2_with fail
  go_loopw [6, 7, 8, 22] (fun cv _ _ iv wr => ∃ (k c : Nat) (L : List Nat), iv = .int .i64 k ∧ k ≤ a.length ∧ cv = .int .u64 c ∧ c ≤ 1 ∧ Hid (L.length = a.length + 1 ∧ lt9 L ∧ pv L + 1000000000 ^ k * c = pv (a.take k) + pv (b.take k) ∧ (∀ t (h : t < L.length), k ≤ t → L[t] = 0)) ∧ Row wr w.heap.size w.heap.size (a.length + 1) L ∧ Below w.heap.size w wr) (fun _ _ _ iv _ => a.length - (intOf iv).toNat)
  case atStart =>
    refine ⟨0, 0, z0 (a.length + 1) [], rfl, Nat.zero_le _, rfl, by omega, ⟨by rw [z0_len]; rfl, ?_, ?_, ?_⟩, hrow0, hbel0⟩
    · unfold z0; rw [List.append_nil]; exact lt9_replicate _
    · unfold z0; rw [List.append_nil, pv_replicate]; simp [pv]
    · intro t ht _; simp [z0]
  case round =>
    obtain ⟨k, c, L, rfl, hk, rfl, hc, HI, hrow, hbel⟩ := hrel
    have hLl := HI.1
    by_cases hlt : k < a.length
    · have hca := (HA.out.below hbel).cell k hlt
      have hx9 := lt9_at H9A.out k hlt
      have hta := pv_take_succ hlt
      obtain ⟨x, hx⟩ : ∃ x : Nat, x = a[k] := ⟨_, rfl⟩
      rw [← hx] at hca hx9 hta
      have hkL : k < L.length := by omega
      have hcp := hrow.cell k hkL
      have hl0 := HI.2.2.2 k hkL (Nat.le_refl _)
      rw [hl0] at hcp
      have hfp := hrow.free k
      by_cases hkb : k < b.length
      · have hcb := (HB.out.below hbel).cell k hkb
        have hy9 := lt9_at H9B.out k hkb
        have htb := pv_take_succ hkb
        obtain ⟨y, hy⟩ : ∃ y : Nat, y = b[k] := ⟨_, rfl⟩
        rw [← hy] at hcb hy9 htb
        have hst := add_step (T := c + x + y) hkL hl0
        have HST := Lib.hid (show pv (L.set k ((c + x + y) % 1000000000)) + 1000000000 ^ (k + 1) * ((c + x + y) / 1000000000) = pv (a.take (k + 1)) + pv (b.take (k + 1)) by
          rw [hst, hta, htb, Nat.mul_add, Nat.mul_add]; have := HI.2.2.1; omega)
        have HR := Lib.hid hrow
        have HBL := Lib.hid hbel
        clear hx hy hta htb hst hl0 hrow hbel hkL
        go_wp2_with fail
        all_goals go_roundw
        case rel =>
          have e := HR.out.set k ((c + x + y) % 1000000000)
          have e2 : (((c + x + y) % 1000000000 : Nat) : Int) = ((c : Int) + (x : Int) + (y : Int)) % 1000000000 := by omega
          rw [e2] at e
          refine ⟨k + 1, (c + x + y) / 1000000000, L.set k ((c + x + y) % 1000000000), by go_num, by omega, by go_num, by omega, ⟨by rw [List.length_set]; exact HI.1, lt9_set HI.2.1 (Nat.mod_lt _ (by decide)), HST.out, ?_⟩, e, HBL.out.setCell (Nat.le_refl _) _⟩
          intro t ht hkt
          rw [List.getElem_set_ne (by omega)]
          exact HI.2.2.2 t (by rw [List.length_set] at ht; exact ht) (by omega)
        case measure => simp [intOf] <;> omega
      · have htb : b.take (k + 1) = b.take k := by rw [List.take_of_length_le (by omega), List.take_of_length_le (by omega)]
        have hst := add_step (T := c + x) hkL hl0
        have HST := Lib.hid (show pv (L.set k ((c + x) % 1000000000)) + 1000000000 ^ (k + 1) * ((c + x) / 1000000000) = pv (a.take (k + 1)) + pv (b.take (k + 1)) by
          rw [hst, hta, htb, Nat.mul_add]; have := HI.2.2.1; omega)
        have HR := Lib.hid hrow
        have HBL := Lib.hid hbel
        clear hx hta htb hst hl0 hrow hbel hkL
        go_wp2_with fail
        all_goals go_roundw
        case rel =>
          have e := HR.out.set k ((c + x) % 1000000000)
          have e2 : (((c + x) % 1000000000 : Nat) : Int) = ((c : Int) + (x : Int)) % 1000000000 := by omega
          rw [e2] at e
          refine ⟨k + 1, (c + x) / 1000000000, L.set k ((c + x) % 1000000000), by go_num, by omega, by go_num, by omega, ⟨by rw [List.length_set]; exact HI.1, lt9_set HI.2.1 (Nat.mod_lt _ (by decide)), HST.out, ?_⟩, e, HBL.out.setCell (Nat.le_refl _) _⟩
          intro t ht hkt
          rw [List.getElem_set_ne (by omega)]
          exact HI.2.2.2 t (by rw [List.length_set] at ht; exact ht) (by omega)
        case measure => simp [intOf] <;> omega
    · obtain rfl : k = a.length := by omega
      have hkL : a.length < L.length := by omega
      have hcp := hrow.cell a.length hkL
      have hl0 := HI.2.2.2 a.length hkL (Nat.le_refl _)
      rw [hl0] at hcp
      have hfp := hrow.free a.length
      have hpv : pv (L.set a.length c) = pv a + pv b := by
        have h1 := pv_set c hkL
        rw [hl0] at h1
        have h2 := HI.2.2.1
        rw [List.take_length, List.take_of_length_le (show b.length ≤ a.length by omega)] at h2
        omega
      have hrow2 := hrow.set a.length c
      have hlen2 : (L.set a.length c).length = a.length + 1 := by rw [List.length_set]; exact HI.1
      have ht := trim_any w.heap.size w.heap.size (a.length + 1) (L.set a.length c) _ hrow2
      rw [hlen2] at ht
      have HT := Lib.hid ht
      have HPV := Lib.hid hpv
      have HR2 := Lib.hid hrow2
      have HB2 := Lib.hid (hbel.setCell (p := ⟨w.heap.size, a.length, none⟩) (Nat.le_refl _) (.int .u64 (c : Int)))
      clear ht hpv hrow2 hrow hbel hl0 hkL hlen2
      go_wp2_with fail
      refine HT.out.mono ?_
      rintro e w1 ⟨rfl, rfl⟩
      go_wp2_with fail
      go_ret
      refine ⟨w.heap.size, a.length + 1, trimP (L.set a.length c), rfl, ?_, ?_, HB2.out⟩
      · rw [← HPV.out]; exact Pcs.of_trim (lt9_set HI.2.1 (by omega))
      · have := HR2.out.take (trimP (L.set a.length c)).length (trimP_props _).2.2.2.1
        rw [← (trimP_props (L.set a.length c)).2.2.2.2] at this; exact this
set_option maxHeartbeats 6400000 in
set_option maxRecDepth 100000 in
theorem add_lt (B g cap g' cap' : Nat) (a b : List Nat) (w : World) (ha : Row w B g cap a) (hb : Row w B g' cap' b) (ha9 : lt9 a) (hb9 : lt9 b) (hla : a.length ≤ 200000) (hl : b.length < a.length) :
    Calls Tryz.prog 175 #[.slice (some ⟨g', 0, none⟩) b.length cap', .slice (some ⟨g, 0, none⟩) a.length cap] w fun e w' => ∃ (h c : Nat) (q : List Nat), e = .returned (.slice (some ⟨h, 0, none⟩) q.length c) ∧ Pcs q (pv a + pv b) ∧ Row w' w.heap.size h c q ∧ Below w.heap.size w w' := by
  have hlc := ha.len_cap
  have hlc' := hb.len_cap
  unfold maxLen at hlc hlc'
  obtain ⟨i0, hi, hz0, hz1, hz2⟩ := info_parts info64
  have HA := Lib.hid ha
  have HB := Lib.hid hb
  have H9A := Lib.hid ha9
  have H9B := Lib.hid hb9
  clear ha hb ha9 hb9
  go_enter Tryz.func175, Tryz.ntmps175
  go_wp2_with (at_make; refine wpList_make_full _ rfl _ _ 161 rfl w.heap.size 135 i0 (.int .u64 0) 1 Tryz.underlying161 hi hz0 hz1 .i64 .i64 _ _ (a.length + 1) rfl rfl (by omega) (by omega) (by rw [hz2]; omega) (by unfold maxLen; omega) (Nat.le_refl _) ?_; intro w0 hown0 hgrow0)
  have hbel0 : Below w.heap.size w w0 := (Below.refl _ _).grown hgrow0 (Nat.le_refl _) (by intro k hk; cases hk)
  have hrow0 := Row.made hown0
  clear hown0 hgrow0
  go_wp2_with fail
  go_loopw [6, 7, 8, 22] (fun cv _ _ iv wr => ∃ (k c : Nat) (L : List Nat), iv = .int .i64 k ∧ k ≤ a.length ∧ cv = .int .u64 c ∧ c ≤ 1 ∧ Hid (L.length = a.length + 1 ∧ lt9 L ∧ pv L + 1000000000 ^ k * c = pv (a.take k) + pv (b.take k) ∧ (∀ t (h : t < L.length), k ≤ t → L[t] = 0)) ∧ Row wr w.heap.size w.heap.size (a.length + 1) L ∧ Below w.heap.size w wr) (fun _ _ _ iv _ => a.length - (intOf iv).toNat)
  case atStart =>
    refine ⟨0, 0, z0 (a.length + 1) [], rfl, Nat.zero_le _, rfl, by omega, ⟨by rw [z0_len]; rfl, ?_, ?_, ?_⟩, hrow0, hbel0⟩
    · unfold z0; rw [List.append_nil]; exact lt9_replicate _
    · unfold z0; rw [List.append_nil, pv_replicate]; simp [pv]
    · intro t ht _; simp [z0]
  case round =>
    obtain ⟨k, c, L, rfl, hk, rfl, hc, HI, hrow, hbel⟩ := hrel
    have hLl := HI.1
    by_cases hlt : k < a.length
    · have hca := (HA.out.below hbel).cell k hlt
      have hx9 := lt9_at H9A.out k hlt
      have hta := pv_take_succ hlt
      obtain ⟨x, hx⟩ : ∃ x : Nat, x = a[k] := ⟨_, rfl⟩
      rw [← hx] at hca hx9 hta
      have hkL : k < L.length := by omega
      have hcp := hrow.cell k hkL
      have hl0 := HI.2.2.2 k hkL (Nat.le_refl _)
      rw [hl0] at hcp
      have hfp := hrow.free k
      by_cases hkb : k < b.length
      · have hcb := (HB.out.below hbel).cell k hkb
        have hy9 := lt9_at H9B.out k hkb
        have htb := pv_take_succ hkb
        obtain ⟨y, hy⟩ : ∃ y : Nat, y = b[k] := ⟨_, rfl⟩
        rw [← hy] at hcb hy9 htb
        have hst := add_step (T := c + x + y) hkL hl0
        have HST := Lib.hid (show pv (L.set k ((c + x + y) % 1000000000)) + 1000000000 ^ (k + 1) * ((c + x + y) / 1000000000) = pv (a.take (k + 1)) + pv (b.take (k + 1)) by
          rw [hst, hta, htb, Nat.mul_add, Nat.mul_add]; have := HI.2.2.1; omega)
        have HR := Lib.hid hrow
        have HBL := Lib.hid hbel
        clear hx hy hta htb hst hl0 hrow hbel hkL
        go_wp2_with fail
        all_goals go_roundw
        case rel =>
          have e := HR.out.set k ((c + x + y) % 1000000000)
          have e2 : (((c + x + y) % 1000000000 : Nat) : Int) = ((c : Int) + (x : Int) + (y : Int)) % 1000000000 := by omega
          rw [e2] at e
          refine ⟨k + 1, (c + x + y) / 1000000000, L.set k ((c + x + y) % 1000000000), by go_num, by omega, by go_num, by omega, ⟨by rw [List.length_set]; exact HI.1, lt9_set HI.2.1 (Nat.mod_lt _ (by decide)), HST.out, ?_⟩, e, HBL.out.setCell (Nat.le_refl _) _⟩
          intro t ht hkt
          rw [List.getElem_set_ne (by omega)]
          exact HI.2.2.2 t (by rw [List.length_set] at ht; exact ht) (by omega)
        case measure => simp [intOf] <;> omega
      · have htb : b.take (k + 1) = b.take k := by rw [List.take_of_length_le (by omega), List.take_of_length_le (by omega)]
        have hst := add_step (T := c + x) hkL hl0
        have HST := Lib.hid (show pv (L.set k ((c + x) % 1000000000)) + 1000000000 ^ (k + 1) * ((c + x) / 1000000000) = pv (a.take (k + 1)) + pv (b.take (k + 1)) by
          rw [hst, hta, htb, Nat.mul_add]; have := HI.2.2.1; omega)
        have HR := Lib.hid hrow
        have HBL := Lib.hid hbel
        clear hx hta htb hst hl0 hrow hbel hkL
        go_wp2_with fail
        all_goals go_roundw
        case rel =>
          have e := HR.out.set k ((c + x) % 1000000000)
          have e2 : (((c + x) % 1000000000 : Nat) : Int) = ((c : Int) + (x : Int)) % 1000000000 := by omega
          rw [e2] at e
          refine ⟨k + 1, (c + x) / 1000000000, L.set k ((c + x) % 1000000000), by go_num, by omega, by go_num, by omega, ⟨by rw [List.length_set]; exact HI.1, lt9_set HI.2.1 (Nat.mod_lt _ (by decide)), HST.out, ?_⟩, e, HBL.out.setCell (Nat.le_refl _) _⟩
          intro t ht hkt
          rw [List.getElem_set_ne (by omega)]
          exact HI.2.2.2 t (by rw [List.length_set] at ht; exact ht) (by omega)
        case measure => simp [intOf] <;> omega
    · obtain rfl : k = a.length := by omega
      have hkL : a.length < L.length := by omega
      have hcp := hrow.cell a.length hkL
      have hl0 := HI.2.2.2 a.length hkL (Nat.le_refl _)
      rw [hl0] at hcp
      have hfp := hrow.free a.length
      have hpv : pv (L.set a.length c) = pv a + pv b := by
        have h1 := pv_set c hkL
        rw [hl0] at h1
        have h2 := HI.2.2.1
        rw [List.take_length, List.take_of_length_le (show b.length ≤ a.length by omega)] at h2
        omega
      have hrow2 := hrow.set a.length c
      have hlen2 : (L.set a.length c).length = a.length + 1 := by rw [List.length_set]; exact HI.1
      have ht := trim_any w.heap.size w.heap.size (a.length + 1) (L.set a.length c) _ hrow2
      rw [hlen2] at ht
      have HT := Lib.hid ht
      have HPV := Lib.hid hpv
      have HR2 := Lib.hid hrow2
      have HB2 := Lib.hid (hbel.setCell (p := ⟨w.heap.size, a.length, none⟩) (Nat.le_refl _) (.int .u64 (c : Int)))
      clear ht hpv hrow2 hrow hbel hl0 hkL hlen2
      go_wp2_with fail
      refine HT.out.mono ?_
      rintro e w1 ⟨rfl, rfl⟩
      go_wp2_with fail
      go_ret
      refine ⟨w.heap.size, a.length + 1, trimP (L.set a.length c), rfl, ?_, ?_, HB2.out⟩
      · rw [← HPV.out]; exact Pcs.of_trim (lt9_set HI.2.1 (by omega))
      · have := HR2.out.take (trimP (L.set a.length c)).length (trimP_props _).2.2.2.1
        rw [← (trimP_props (L.set a.length c)).2.2.2.2] at this; exact this
theorem add_any (B g cap g' cap' : Nat) (a b : List Nat) (w : World) (ha : Row w B g cap a) (hb : Row w B g' cap' b) (ha9 : lt9 a) (hb9 : lt9 b) (hla : a.length ≤ 200000) (hlb : b.length ≤ 200000) :
    Calls Tryz.prog 175 #[.slice (some ⟨g, 0, none⟩) a.length cap, .slice (some ⟨g', 0, none⟩) b.length cap'] w fun e w' => ∃ (h c : Nat) (q : List Nat), e = .returned (.slice (some ⟨h, 0, none⟩) q.length c) ∧ Pcs q (pv a + pv b) ∧ Row w' w.heap.size h c q ∧ Below w.heap.size w w' := by
  by_cases h : b.length ≤ a.length
  · exact add_ge B g cap g' cap' a b w ha hb ha9 hb9 hla h
  · rw [Nat.add_comm]
    exact add_lt B g' cap' g cap b a w hb ha hb9 ha9 hlb (by omega)
end Go.Proofs.YtgkfdgdlmpggpaaGreatDoor

namespace Go.Proofs.YtgkfdgdlmpggpaaGreatDoor
open Go.RowKit

theorem sub_step {L : List Nat} {k v c bo y x bo' pa pb : Nat} (hk : k < L.length) (h0 : L[k] = 0) (hI : pv L + pb = pa + 1000000000 ^ k * bo) (hv : v + c = x + 1000000000 * bo') (hc : c = bo + y) :
    pv (L.set k v) + (pb + 1000000000 ^ k * y) = (pa + 1000000000 ^ k * x) + 1000000000 ^ (k + 1) * bo' := by
  have h1 := pv_set v hk
  rw [h0] at h1
  have h2 : 1000000000 ^ k * (v + c) = 1000000000 ^ k * (x + 1000000000 * bo') := by rw [hv]
  have h3 : 1000000000 ^ k * (v + c) = 1000000000 ^ k * v + 1000000000 ^ k * bo + 1000000000 ^ k * y := by rw [hc, Nat.mul_add, Nat.mul_add]; omega
  have h4 : 1000000000 ^ k * (x + 1000000000 * bo') = 1000000000 ^ k * x + 1000000000 ^ (k + 1) * bo' := by rw [Nat.mul_add, ← Nat.mul_assoc, ← Nat.pow_succ]
  rw [h3, h4] at h2
  generalize 1000000000 ^ (k + 1) * bo' = A at *
  generalize 1000000000 ^ k * v = V at *
  generalize 1000000000 ^ k * bo = O at *
  generalize 1000000000 ^ k * y = Y at *
  generalize 1000000000 ^ k * x = X at *
  omega
theorem Pcs.len_mono {p q : List Nat} {a b : Nat} (hp : Pcs p a) (hq : Pcs q b) (h : b ≤ a) : q.length ≤ p.length := by
  refine hq.len_of_lt ?_
  have := pv_lt p hp.lt
  rw [hp.val] at this; omega

set_option maxHeartbeats 6400000 in
set_option maxRecDepth 100000 in
theorem subtract_any (B g cap g' cap' : Nat) (a b : List Nat) (w : World) (ha : Row w B g cap a) (hb : Row w B g' cap' b) (ha9 : lt9 a) (hb9 : lt9 b) (hla : a.length ≤ 200000) (hl : b.length ≤ a.length) (hle : pv b ≤ pv a) :
    Calls Tryz.prog 177 #[.slice (some ⟨g, 0, none⟩) a.length cap, .slice (some ⟨g', 0, none⟩) b.length cap'] w fun e w' => ∃ (h c : Nat) (q : List Nat), e = .returned (.slice (some ⟨h, 0, none⟩) q.length c) ∧ Pcs q (pv a - pv b) ∧ Row w' w.heap.size h c q ∧ Below w.heap.size w w' := by
  have hlc := ha.len_cap
  have hlc' := hb.len_cap
  unfold maxLen at hlc hlc'
  obtain ⟨i0, hi, hz0, hz1, hz2⟩ := info_parts info64
  have HA := Lib.hid ha
  have HB := Lib.hid hb
  have H9A := Lib.hid ha9
  have H9B := Lib.hid hb9
  have HLE := Lib.hid hle
  clear ha hb ha9 hb9 hle
  go_enter Tryz.func177, Tryz.ntmps177
  go_wp2_with (at_make; refine wpList_make_full _ rfl _ _ 161 rfl w.heap.size 135 i0 (.int .u64 0) 1 Tryz.underlying161 hi hz0 hz1 .i64 .i64 _ _ a.length rfl rfl (by omega) (by omega) (by rw [hz2]; omega) (by unfold maxLen; omega) (Nat.le_refl _) ?_; intro w0 hown0 hgrow0)
  have hbel0 : Below w.heap.size w w0 := (Below.refl _ _).grown hgrow0 (Nat.le_refl _) (by intro k hk; cases hk)
  have hrow0 := Row.made hown0
  clear hown0 hgrow0
  go_wp2_with fail
  go_loopw [6, 7, 8, 9, 15] (fun cv _ _ _ iv wr => ∃ (k c : Nat) (L : List Nat), iv = .int .i64 k ∧ k ≤ a.length ∧ cv = .int .u64 c ∧ c ≤ 1 ∧ Hid (L.length = a.length ∧ lt9 L ∧ pv L + pv (b.take k) = pv (a.take k) + 1000000000 ^ k * c ∧ (∀ t (h : t < L.length), k ≤ t → L[t] = 0)) ∧ Row wr w.heap.size w.heap.size a.length L ∧ Below w.heap.size w wr) (fun _ _ _ _ iv _ => a.length - (intOf iv).toNat)
  case atStart =>
    refine ⟨0, 0, z0 a.length [], rfl, Nat.zero_le _, rfl, by omega, ⟨by rw [z0_len]; rfl, ?_, ?_, ?_⟩, hrow0, hbel0⟩
    · unfold z0; rw [List.append_nil]; exact lt9_replicate _
    · unfold z0; rw [List.append_nil, pv_replicate]; simp [pv]
    · intro t ht _; simp [z0]
  case round =>
    obtain ⟨k, c, L, rfl, hk, rfl, hc, HI, hrow, hbel⟩ := hrel
    have hLl := HI.1
    by_cases hlt : k < a.length
    · have hca := (HA.out.below hbel).cell k hlt
      have hx9 := lt9_at H9A.out k hlt
      have hta := pv_take_succ hlt
      obtain ⟨x, hx⟩ : ∃ x : Nat, x = a[k] := ⟨_, rfl⟩
      rw [← hx] at hca hx9 hta
      have hkL : k < L.length := by omega
      have hcp := hrow.cell k hkL
      have hl0 := HI.2.2.2 k hkL (Nat.le_refl _)
      rw [hl0] at hcp
      have hfp := hrow.free k
      have HR := Lib.hid hrow
      have HBL := Lib.hid hbel
      have hzero : ∀ v, ∀ t (h : t < (L.set k v).length), k + 1 ≤ t → (L.set k v)[t] = 0 := fun v t ht hkt => by
        rw [List.getElem_set_ne (by omega)]
        exact HI.2.2.2 t (by rw [List.length_set] at ht; exact ht) (by omega)
      have HZ := Lib.hid hzero
      by_cases hkb : k < b.length
      · have hcb := (HB.out.below hbel).cell k hkb
        have hy9 := lt9_at H9B.out k hkb
        have htb := pv_take_succ hkb
        obtain ⟨y, hy⟩ : ∃ y : Nat, y = b[k] := ⟨_, rfl⟩
        rw [← hy] at hcb hy9 htb
        by_cases hbw : x < c + y
        · have HST := Lib.hid (show pv (L.set k (x + 1000000000 - (c + y))) + pv (b.take (k + 1)) = pv (a.take (k + 1)) + 1000000000 ^ (k + 1) * 1 by
            rw [hta, htb]; exact sub_step (c := c + y) hkL hl0 HI.2.2.1 (by omega) rfl)
          clear hx hy hta htb hl0 hrow hbel hkL hzero
          go_wp2_with fail
          all_goals go_roundw
          case rel =>
            have e := HR.out.set k (x + 1000000000 - (c + y))
            have e2 : ((x + 1000000000 - (c + y) : Nat) : Int) = (x : Int) + 1000000000 - ((c : Int) + (y : Int)) := by omega
            rw [e2] at e
            exact ⟨k + 1, 1, L.set k (x + 1000000000 - (c + y)), by go_num, by omega, rfl, by omega, ⟨by rw [List.length_set]; exact HI.1, lt9_set HI.2.1 (by omega), HST.out, HZ.out _⟩, e, HBL.out.setCell (Nat.le_refl _) _⟩
          case measure => simp [intOf] <;> omega
        · have HST := Lib.hid (show pv (L.set k (x - (c + y))) + pv (b.take (k + 1)) = pv (a.take (k + 1)) + 1000000000 ^ (k + 1) * 0 by
            rw [hta, htb]; exact sub_step (c := c + y) hkL hl0 HI.2.2.1 (by omega) rfl)
          clear hx hy hta htb hl0 hrow hbel hkL hzero
          go_wp2_with fail
          all_goals go_roundw
          case rel =>
            have e := HR.out.set k (x - (c + y))
            have e2 : ((x - (c + y) : Nat) : Int) = (x : Int) - ((c : Int) + (y : Int)) := by omega
            rw [e2] at e
            exact ⟨k + 1, 0, L.set k (x - (c + y)), by go_num, by omega, rfl, by omega, ⟨by rw [List.length_set]; exact HI.1, lt9_set HI.2.1 (by omega), HST.out, HZ.out _⟩, e, HBL.out.setCell (Nat.le_refl _) _⟩
          case measure => simp [intOf] <;> omega
      · have htb : b.take (k + 1) = b.take k := by rw [List.take_of_length_le (by omega), List.take_of_length_le (by omega)]
        by_cases hbw : x < c
        · have HST := Lib.hid (show pv (L.set k (x + 1000000000 - c)) + pv (b.take (k + 1)) = pv (a.take (k + 1)) + 1000000000 ^ (k + 1) * 1 by
            have := sub_step (y := 0) (x := x) (bo' := 1) (v := x + 1000000000 - c) (c := c) hkL hl0 HI.2.2.1 (by omega) (by omega)
            rw [hta, htb]; simpa using this)
          clear hx hta htb hl0 hrow hbel hkL hzero
          go_wp2_with fail
          all_goals go_roundw
          case rel =>
            have e := HR.out.set k (x + 1000000000 - c)
            have e2 : ((x + 1000000000 - c : Nat) : Int) = (x : Int) + 1000000000 - (c : Int) := by omega
            rw [e2] at e
            exact ⟨k + 1, 1, L.set k (x + 1000000000 - c), by go_num, by omega, rfl, by omega, ⟨by rw [List.length_set]; exact HI.1, lt9_set HI.2.1 (by omega), HST.out, HZ.out _⟩, e, HBL.out.setCell (Nat.le_refl _) _⟩
          case measure => simp [intOf] <;> omega
        · have HST := Lib.hid (show pv (L.set k (x - c)) + pv (b.take (k + 1)) = pv (a.take (k + 1)) + 1000000000 ^ (k + 1) * 0 by
            have := sub_step (y := 0) (x := x) (bo' := 0) (v := x - c) (c := c) hkL hl0 HI.2.2.1 (by omega) (by omega)
            rw [hta, htb]; simpa using this)
          clear hx hta htb hl0 hrow hbel hkL hzero
          go_wp2_with fail
          all_goals go_roundw
          case rel =>
            have e := HR.out.set k (x - c)
            have e2 : ((x - c : Nat) : Int) = (x : Int) - (c : Int) := by omega
            rw [e2] at e
            exact ⟨k + 1, 0, L.set k (x - c), by go_num, by omega, rfl, by omega, ⟨by rw [List.length_set]; exact HI.1, lt9_set HI.2.1 (by omega), HST.out, HZ.out _⟩, e, HBL.out.setCell (Nat.le_refl _) _⟩
          case measure => simp [intOf] <;> omega
    · obtain rfl : k = a.length := by omega
      have hpv : pv L = pv a - pv b := by
        have h2 := HI.2.2.1
        rw [List.take_length, List.take_of_length_le (show b.length ≤ a.length by omega)] at h2
        have h3 := pv_lt L HI.2.1
        rw [HI.1] at h3
        have h4 := HLE.out
        rcases (show c = 0 ∨ c = 1 by omega) with h | h
        · rw [h] at h2; omega
        · rw [h] at h2; omega
      have ht := trim_any w.heap.size w.heap.size a.length L _ hrow
      rw [HI.1] at ht
      have HT := Lib.hid ht
      have HPV := Lib.hid hpv
      have HR2 := Lib.hid hrow
      have HB2 := Lib.hid hbel
      clear ht hpv hrow hbel
      go_wp2_with fail
      refine HT.out.mono ?_
      rintro e w1 ⟨rfl, rfl⟩
      go_wp2_with fail
      go_ret
      refine ⟨w.heap.size, a.length, trimP L, rfl, ?_, ?_, HB2.out⟩
      · rw [← HPV.out]; exact Pcs.of_trim HI.2.1
      · have := HR2.out.take (trimP L).length (trimP_props _).2.2.2.1
        rw [← (trimP_props L).2.2.2.2] at this; exact this
end Go.Proofs.YtgkfdgdlmpggpaaGreatDoor
