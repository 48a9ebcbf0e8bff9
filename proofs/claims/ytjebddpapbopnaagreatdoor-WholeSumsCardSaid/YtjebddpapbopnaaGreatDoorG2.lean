/-
  Texts of one seat, joined: Add Sub AddSub Tools BitLen LawsLaw ExpsLaw RefAdd RefSub RefLimbs RefMul AddsLaw PowersLaw RefDiv RefBits Div64 Short2 Gcds Back Guess.
-/
import Derived.Test.YtjebddpapbopnaaGreatDoorG1
import Derived.Laws.Bits64
import Derived.OpenShut
import Derived.IntWalk
import Derived.Deep.QuietTactic
import Derived.BigQuiet
import Derived.Deep.RegionWith
namespace Go.Proofs.YtjebddpapbopnaaGreatDoor
open Go.RowKit

theorem add_step {L : List Nat} {k T : Nat} (hk : k < L.length) (h0 : L[k] = 0) :
    pv (L.set k (T % 1000000000)) + 1000000000 ^ (k + 1) * (T / 1000000000) = pv L + 1000000000 ^ k * T := by
  have h1 := pv_set (T % 1000000000) hk
  rw [h0] at h1
  have h2 : 1000000000 ^ (k + 1) * (T / 1000000000) + 1000000000 ^ k * (T % 1000000000) = 1000000000 ^ k * T := by
    rw [Nat.pow_succ, Nat.mul_assoc, ← Nat.mul_add, Nat.div_add_mod]
  omega

set_option maxHeartbeats 6400000 in
set_option maxRecDepth 100000 in
theorem add_ge (B g cap g' cap' : Nat) (a b : List Nat) (w : World) (ha : Row w B g cap a) (hb : Row w B g' cap' b) (ha9 : lt9 a) (hb9 : lt9 b) (hla : a.length ≤ 200000) (hl : b.length ≤ a.length) :
    Calls Tryz.prog 98 #[.slice (some ⟨g, 0, none⟩) a.length cap, .slice (some ⟨g', 0, none⟩) b.length cap'] w fun e w' => ∃ (h c : Nat) (q : List Nat), e = .returned (.slice (some ⟨h, 0, none⟩) q.length c) ∧ Pcs q (pv a + pv b) ∧ Row w' w.heap.size h c q ∧ Below w.heap.size w w' := by
  have hlc := ha.len_cap
  have hlc' := hb.len_cap
  unfold maxLen at hlc hlc'
  obtain ⟨i0, hi, hz0, hz1, hz2⟩ := info_parts info64
  have HA := Lib.hid ha
  have HB := Lib.hid hb
  have H9A := Lib.hid ha9
  have H9B := Lib.hid hb9
  clear ha hb ha9 hb9
  go_enter Tryz.func98, Tryz.ntmps98
  go_wp2_with (at_make; refine wpList_make_full _ rfl _ _ 103 rfl w.heap.size 61 i0 (.int .u64 0) 1 Tryz.underlying103 hi hz0 hz1 .i64 .i64 _ _ (a.length + 1) rfl rfl (by omega) (by omega) (by rw [hz2]; omega) (by unfold maxLen; omega) (Nat.le_refl _) ?_; intro w0 hown0 hgrow0)
  have hbel0 : Below w.heap.size w w0 := (Below.refl _ _).grown hgrow0 (Nat.le_refl _) (by intro k hk; cases hk)
  have hrow0 := Row.made hown0
  clear hown0 hgrow0
  go_wp2_with fail
  go_loopw [6, 7, 8, 22] (fun cv _ _ iv wr => ∃ (k c : Nat) (L : List Nat), iv = .int .i64 k ∧ k ≤ a.length ∧ cv = .int .u64 c ∧ c ≤ 1 ∧ Hid (L.length = a.length + 1 ∧ lt9 L ∧ pv L + 1000000000 ^ k * c = pv (a.take k) + pv (b.take k) ∧ (∀ t (h : t < L.length), k ≤ t → L[t] = 0)) ∧ Row wr w.heap.size w.heap.size (a.length + 1) L ∧ Below w.heap.size w wr) (fun _ _ _ iv _ => a.length - (intOf iv).toNat)
  case atStart =>
    refine ⟨0, 0, z0 (a.length + 1) [], rfl, Nat.zero_le _, rfl, by omega, ⟨by rw [z0_len]; rfl, ?_, ?_, ?_⟩, hrow0, hbel0⟩
    · unfold z0; rw [List.append_nil]; exact lt9_replicate _
    · unfold z0; rw [List.append_nil, pv_replicate]; simp [pv]
    · intro t ht _; simp [z0]
  case round =>
    obtain ⟨k, c, L, rfl, hk, rfl, hc, HI, hrow, hbel⟩ := hrel
    have hLl := HI.1
    by_cases hlt : k < a.length
    · have hca := (HA.out.below hbel).cell k hlt
      have hx9 := lt9_at H9A.out k hlt
      have hta := pv_take_succ hlt
      obtain ⟨x, hx⟩ : ∃ x : Nat, x = a[k] := ⟨_, rfl⟩
      rw [← hx] at hca hx9 hta
      have hkL : k < L.length := by omega
      have hcp := hrow.cell k hkL
      have hl0 := HI.2.2.2 k hkL (Nat.le_refl _)
      rw [hl0] at hcp
      have hfp := hrow.free k
      by_cases hkb : k < b.length
      · have hcb := (HB.out.below hbel).cell k hkb
        have hy9 := lt9_at H9B.out k hkb
        have htb := pv_take_succ hkb
        obtain ⟨y, hy⟩ : ∃ y : Nat, y = b[k] := ⟨_, rfl⟩
        rw [← hy] at hcb hy9 htb
        have hst := add_step (T := c + x + y) hkL hl0
        have HST := Lib.hid (show pv (L.set k ((c + x + y) % 1000000000)) + 1000000000 ^ (k + 1) * ((c + x + y) / 1000000000) = pv (a.take (k + 1)) + pv (b.take (k + 1)) by
          rw [hst, hta, htb, Nat.mul_add, Nat.mul_add]; have := HI.2.2.1; omega)
        have HR := Lib.hid hrow
        have HBL := Lib.hid hbel
        clear hx hy hta htb hst hl0 hrow hbel hkL
        go_wp2_with fail
        all_goals go_roundw
        case rel =>
          have e := HR.out.set k ((c + x + y) % 1000000000)
          have e2 : (((c + x + y) % 1000000000 : Nat) : Int) = ((c : Int) + (x : Int) + (y : Int)) % 1000000000 := by omega
          rw [e2] at e
          refine ⟨k + 1, (c + x + y) / 1000000000, L.set k ((c + x + y) % 1000000000), by go_num, by omega, by go_num, by omega, ⟨by rw [List.length_set]; exact HI.1, lt9_set HI.2.1 (Nat.mod_lt _ (by decide)), HST.out, ?_⟩, e, HBL.out.setCell (Nat.le_refl _) _⟩
          intro t ht hkt
          rw [List.getElem_set_ne (by omega)]
          exact HI.2.2.2 t (by rw [List.length_set] at ht; exact ht) (by omega)
        case measure => simp [intOf] <;> omega
      · have htb : b.take (k + 1) = b.take k := by rw [List.take_of_length_le (by omega), List.take_of_length_le (by omega)]
        have hst := add_step (T := c + x) hkL hl0
        have HST := Lib.hid (show pv (L.set k ((c + x) % 1000000000)) + 1000000000 ^ (k + 1) * ((c + x) / 1000000000) = pv (a.take (k + 1)) + pv (b.take (k + 1)) by
          rw [hst, hta, htb, Nat.mul_add]; have := HI.2.2.1; omega)
        have HR := Lib.hid hrow
        have HBL := Lib.hid hbel
        clear hx hta htb hst hl0 hrow hbel hkL
        go_wp2_with fail
        all_goals go_roundw
        case rel =>
          have e := HR.out.set k ((c + x) % 1000000000)
          have e2 : (((c + x) % 1000000000 : Nat) : Int) = ((c : Int) + (x : Int)) % 1000000000 := by omega
          rw [e2] at e
          refine ⟨k + 1, (c + x) / 1000000000, L.set k ((c + x) % 1000000000), by go_num, by omega, by go_num, by omega, ⟨by rw [List.length_set]; exact HI.1, lt9_set HI.2.1 (Nat.mod_lt _ (by decide)), HST.out, ?_⟩, e, HBL.out.setCell (Nat.le_refl _) _⟩
          intro t ht hkt
          rw [List.getElem_set_ne (by omega)]
          exact HI.2.2.2 t (by rw [List.length_set] at ht; exact ht) (by omega)
        case measure => simp [intOf] <;> omega
    · obtain rfl : k = a.length := by omega
      have hkL : a.length < L.length := by omega
      have hcp := hrow.cell a.length hkL
      have hl0 := HI.2.2.2 a.length hkL (Nat.le_refl _)
      rw [hl0] at hcp
      have hfp := hrow.free a.length
      have hpv : pv (L.set a.length c) = pv a + pv b := by
        have h1 := pv_set c hkL
        rw [hl0] at h1
        have h2 := HI.2.2.1
        rw [List.take_length, List.take_of_length_le (show b.length ≤ a.length by omega)] at h2
        omega
      have hrow2 := hrow.set a.length c
      have hlen2 : (L.set a.length c).length = a.length + 1 := by rw [List.length_set]; exact HI.1
      have ht := trim_any w.heap.size w.heap.size (a.length + 1) (L.set a.length c) _ hrow2
      rw [hlen2] at ht
      have HT := Lib.hid ht
      have HPV := Lib.hid hpv
      have HR2 := Lib.hid hrow2
      have HB2 := Lib.hid (hbel.setCell (p := ⟨w.heap.size, a.length, none⟩) (Nat.le_refl _) (.int .u64 (c : Int)))
      clear ht hpv hrow2 hrow hbel hl0 hkL hlen2
      go_wp2_with fail
      refine HT.out.mono ?_
      rintro e w1 ⟨rfl, rfl⟩
      go_wp2_with fail
      go_ret
      refine ⟨w.heap.size, a.length + 1, trimP (L.set a.length c), rfl, ?_, ?_, HB2.out⟩
      · rw [← HPV.out]; exact Pcs.of_trim (lt9_set HI.2.1 (by omega))
      · have := HR2.out.take (trimP (L.set a.length c)).length (trimP_props _).2.2.2.1
        rw [← (trimP_props (L.set a.length c)).2.2.2.2] at this; exact this
set_option maxHeartbeats 6400000 in
set_option maxRecDepth 100000 in
theorem add_lt (B g cap g' cap' : Nat) (a b : List Nat) (w : World) (ha : Row w B g cap a) (hb : Row w B g' cap' b) (ha9 : lt9 a) (hb9 : lt9 b) (hla : a.length ≤ 200000) (hl : b.length < a.length) :
    Calls Tryz.prog 98 #[.slice (some ⟨g', 0, none⟩) b.length cap', .slice (some ⟨g, 0, none⟩) a.length cap] w fun e w' => ∃ (h c : Nat) (q : List Nat), e = .returned (.slice (some ⟨h, 0, none⟩) q.length c) ∧ Pcs q (pv a + pv b) ∧ Row w' w.heap.size h c q ∧ Below w.heap.size w w' := by
  have hlc := ha.len_cap
  have hlc' := hb.len_cap
  unfold maxLen at hlc hlc'
  obtain ⟨i0, hi, hz0, hz1, hz2⟩ := info_parts info64
  have HA := Lib.hid ha
  have HB := Lib.hid hb
  have H9A := Lib.hid ha9
  have H9B := Lib.hid hb9
  clear ha hb ha9 hb9
  go_enter Tryz.func98, Tryz.ntmps98
  go_wp2_with (at_make; refine wpList_make_full _ rfl _ _ 103 rfl w.heap.size 61 i0 (.int .u64 0) 1 Tryz.underlying103 hi hz0 hz1 .i64 .i64 _ _ (a.length + 1) rfl rfl (by omega) (by omega) (by rw [hz2]; omega) (by unfold maxLen; omega) (Nat.le_refl _) ?_; intro w0 hown0 hgrow0)
  have hbel0 : Below w.heap.size w w0 := (Below.refl _ _).grown hgrow0 (Nat.le_refl _) (by intro k hk; cases hk)
  have hrow0 := Row.made hown0
  clear hown0 hgrow0
  go_wp2_with fail
  go_loopw [6, 7, 8, 22] (fun cv _ _ iv wr => ∃ (k c : Nat) (L : List Nat), iv = .int .i64 k ∧ k ≤ a.length ∧ cv = .int .u64 c ∧ c ≤ 1 ∧ Hid (L.length = a.length + 1 ∧ lt9 L ∧ pv L + 1000000000 ^ k * c = pv (a.take k) + pv (b.take k) ∧ (∀ t (h : t < L.length), k ≤ t → L[t] = 0)) ∧ Row wr w.heap.size w.heap.size (a.length + 1) L ∧ Below w.heap.size w wr) (fun _ _ _ iv _ => a.length - (intOf iv).toNat)
  case atStart =>
    refine ⟨0, 0, z0 (a.length + 1) [], rfl, Nat.zero_le _, rfl, by omega, ⟨by rw [z0_len]; rfl, ?_, ?_, ?_⟩, hrow0, hbel0⟩
    · unfold z0; rw [List.append_nil]; exact lt9_replicate _
    · unfold z0; rw [List.append_nil, pv_replicate]; simp [pv]
    · intro t ht _; simp [z0]
  case round =>
    obtain ⟨k, c, L, rfl, hk, rfl, hc, HI, hrow, hbel⟩ := hrel
    have hLl := HI.1
    by_cases hlt : k < a.length
    · have hca := (HA.out.below hbel).cell k hlt
      have hx9 := lt9_at H9A.out k hlt
      have hta := pv_take_succ hlt
      obtain ⟨x, hx⟩ : ∃ x : Nat, x = a[k] := ⟨_, rfl⟩
      rw [← hx] at hca hx9 hta
      have hkL : k < L.length := by omega
      have hcp := hrow.cell k hkL
      have hl0 := HI.2.2.2 k hkL (Nat.le_refl _)
      rw [hl0] at hcp
      have hfp := hrow.free k
      by_cases hkb : k < b.length
      · have hcb := (HB.out.below hbel).cell k hkb
        have hy9 := lt9_at H9B.out k hkb
        have htb := pv_take_succ hkb
        obtain ⟨y, hy⟩ : ∃ y : Nat, y = b[k] := ⟨_, rfl⟩
        rw [← hy] at hcb hy9 htb
        have hst := add_step (T := c + x + y) hkL hl0
        have HST := Lib.hid (show pv (L.set k ((c + x + y) % 1000000000)) + 1000000000 ^ (k + 1) * ((c + x + y) / 1000000000) = pv (a.take (k + 1)) + pv (b.take (k + 1)) by
          rw [hst, hta, htb, Nat.mul_add, Nat.mul_add]; have := HI.2.2.1; omega)
        have HR := Lib.hid hrow
        have HBL := Lib.hid hbel
        clear hx hy hta htb hst hl0 hrow hbel hkL
        go_wp2_with fail
        all_goals go_roundw
        case rel =>
          have e := HR.out.set k ((c + x + y) % 1000000000)
          have e2 : (((c + x + y) % 1000000000 : Nat) : Int) = ((c : Int) + (x : Int) + (y : Int)) % 1000000000 := by omega
          rw [e2] at e
          refine ⟨k + 1, (c + x + y) / 1000000000, L.set k ((c + x + y) % 1000000000), by go_num, by omega, by go_num, by omega, ⟨by rw [List.length_set]; exact HI.1, lt9_set HI.2.1 (Nat.mod_lt _ (by decide)), HST.out, ?_⟩, e, HBL.out.setCell (Nat.le_refl _) _⟩
          intro t ht hkt
          rw [List.getElem_set_ne (by omega)]
          exact HI.2.2.2 t (by rw [List.length_set] at ht; exact ht) (by omega)
        case measure => simp [intOf] <;> omega
      · have htb : b.take (k + 1) = b.take k := by rw [List.take_of_length_le (by omega), List.take_of_length_le (by omega)]
        have hst := add_step (T := c + x) hkL hl0
        have HST := Lib.hid (show pv (L.set k ((c + x) % 1000000000)) + 1000000000 ^ (k + 1) * ((c + x) / 1000000000) = pv (a.take (k + 1)) + pv (b.take (k + 1)) by
          rw [hst, hta, htb, Nat.mul_add]; have := HI.2.2.1; omega)
        have HR := Lib.hid hrow
        have HBL := Lib.hid hbel
        clear hx hta htb hst hl0 hrow hbel hkL
        go_wp2_with fail
        all_goals go_roundw
        case rel =>
          have e := HR.out.set k ((c + x) % 1000000000)
          have e2 : (((c + x) % 1000000000 : Nat) : Int) = ((c : Int) + (x : Int)) % 1000000000 := by omega
          rw [e2] at e
          refine ⟨k + 1, (c + x) / 1000000000, L.set k ((c + x) % 1000000000), by go_num, by omega, by go_num, by omega, ⟨by rw [List.length_set]; exact HI.1, lt9_set HI.2.1 (Nat.mod_lt _ (by decide)), HST.out, ?_⟩, e, HBL.out.setCell (Nat.le_refl _) _⟩
          intro t ht hkt
          rw [List.getElem_set_ne (by omega)]
          exact HI.2.2.2 t (by rw [List.length_set] at ht; exact ht) (by omega)
        case measure => simp [intOf] <;> omega
    · obtain rfl : k = a.length := by omega
      have hkL : a.length < L.length := by omega
      have hcp := hrow.cell a.length hkL
      have hl0 := HI.2.2.2 a.length hkL (Nat.le_refl _)
      rw [hl0] at hcp
      have hfp := hrow.free a.length
      have hpv : pv (L.set a.length c) = pv a + pv b := by
        have h1 := pv_set c hkL
        rw [hl0] at h1
        have h2 := HI.2.2.1
        rw [List.take_length, List.take_of_length_le (show b.length ≤ a.length by omega)] at h2
        omega
      have hrow2 := hrow.set a.length c
      have hlen2 : (L.set a.length c).length = a.length + 1 := by rw [List.length_set]; exact HI.1
      have ht := trim_any w.heap.size w.heap.size (a.length + 1) (L.set a.length c) _ hrow2
      rw [hlen2] at ht
      have HT := Lib.hid ht
      have HPV := Lib.hid hpv
      have HR2 := Lib.hid hrow2
      have HB2 := Lib.hid (hbel.setCell (p := ⟨w.heap.size, a.length, none⟩) (Nat.le_refl _) (.int .u64 (c : Int)))
      clear ht hpv hrow2 hrow hbel hl0 hkL hlen2
      go_wp2_with fail
      refine HT.out.mono ?_
      rintro e w1 ⟨rfl, rfl⟩
      go_wp2_with fail
      go_ret
      refine ⟨w.heap.size, a.length + 1, trimP (L.set a.length c), rfl, ?_, ?_, HB2.out⟩
      · rw [← HPV.out]; exact Pcs.of_trim (lt9_set HI.2.1 (by omega))
      · have := HR2.out.take (trimP (L.set a.length c)).length (trimP_props _).2.2.2.1
        rw [← (trimP_props (L.set a.length c)).2.2.2.2] at this; exact this
theorem add_any (B g cap g' cap' : Nat) (a b : List Nat) (w : World) (ha : Row w B g cap a) (hb : Row w B g' cap' b) (ha9 : lt9 a) (hb9 : lt9 b) (hla : a.length ≤ 200000) (hlb : b.length ≤ 200000) :
    Calls Tryz.prog 98 #[.slice (some ⟨g, 0, none⟩) a.length cap, .slice (some ⟨g', 0, none⟩) b.length cap'] w fun e w' => ∃ (h c : Nat) (q : List Nat), e = .returned (.slice (some ⟨h, 0, none⟩) q.length c) ∧ Pcs q (pv a + pv b) ∧ Row w' w.heap.size h c q ∧ Below w.heap.size w w' := by
  by_cases h : b.length ≤ a.length
  · exact add_ge B g cap g' cap' a b w ha hb ha9 hb9 hla h
  · rw [Nat.add_comm]
    exact add_lt B g' cap' g cap b a w hb ha hb9 ha9 hlb (by omega)
end Go.Proofs.YtjebddpapbopnaaGreatDoor

namespace Go.Proofs.YtjebddpapbopnaaGreatDoor
open Go.RowKit

theorem sub_step {L : List Nat} {k v c bo y x bo' pa pb : Nat} (hk : k < L.length) (h0 : L[k] = 0) (hI : pv L + pb = pa + 1000000000 ^ k * bo) (hv : v + c = x + 1000000000 * bo') (hc : c = bo + y) :
    pv (L.set k v) + (pb + 1000000000 ^ k * y) = (pa + 1000000000 ^ k * x) + 1000000000 ^ (k + 1) * bo' := by
  have h1 := pv_set v hk
  rw [h0] at h1
  have h2 : 1000000000 ^ k * (v + c) = 1000000000 ^ k * (x + 1000000000 * bo') := by rw [hv]
  have h3 : 1000000000 ^ k * (v + c) = 1000000000 ^ k * v + 1000000000 ^ k * bo + 1000000000 ^ k * y := by rw [hc, Nat.mul_add, Nat.mul_add]; omega
  have h4 : 1000000000 ^ k * (x + 1000000000 * bo') = 1000000000 ^ k * x + 1000000000 ^ (k + 1) * bo' := by rw [Nat.mul_add, ← Nat.mul_assoc, ← Nat.pow_succ]
  rw [h3, h4] at h2
  generalize 1000000000 ^ (k + 1) * bo' = A at *
  generalize 1000000000 ^ k * v = V at *
  generalize 1000000000 ^ k * bo = O at *
  generalize 1000000000 ^ k * y = Y at *
  generalize 1000000000 ^ k * x = X at *
  omega
theorem Pcs.len_mono {p q : List Nat} {a b : Nat} (hp : Pcs p a) (hq : Pcs q b) (h : b ≤ a) : q.length ≤ p.length := by
  refine hq.len_of_lt ?_
  have := pv_lt p hp.lt
  rw [hp.val] at this; omega

set_option maxHeartbeats 6400000 in
set_option maxRecDepth 100000 in
theorem subtract_any (B g cap g' cap' : Nat) (a b : List Nat) (w : World) (ha : Row w B g cap a) (hb : Row w B g' cap' b) (ha9 : lt9 a) (hb9 : lt9 b) (hla : a.length ≤ 200000) (hl : b.length ≤ a.length) (hle : pv b ≤ pv a) :
    Calls Tryz.prog 99 #[.slice (some ⟨g, 0, none⟩) a.length cap, .slice (some ⟨g', 0, none⟩) b.length cap'] w fun e w' => ∃ (h c : Nat) (q : List Nat), e = .returned (.slice (some ⟨h, 0, none⟩) q.length c) ∧ Pcs q (pv a - pv b) ∧ Row w' w.heap.size h c q ∧ Below w.heap.size w w' := by
  have hlc := ha.len_cap
  have hlc' := hb.len_cap
  unfold maxLen at hlc hlc'
  obtain ⟨i0, hi, hz0, hz1, hz2⟩ := info_parts info64
  have HA := Lib.hid ha
  have HB := Lib.hid hb
  have H9A := Lib.hid ha9
  have H9B := Lib.hid hb9
  have HLE := Lib.hid hle
  clear ha hb ha9 hb9 hle
  go_enter Tryz.func99, Tryz.ntmps99
  go_wp2_with (at_make; refine wpList_make_full _ rfl _ _ 103 rfl w.heap.size 61 i0 (.int .u64 0) 1 Tryz.underlying103 hi hz0 hz1 .i64 .i64 _ _ a.length rfl rfl (by omega) (by omega) (by rw [hz2]; omega) (by unfold maxLen; omega) (Nat.le_refl _) ?_; intro w0 hown0 hgrow0)
  have hbel0 : Below w.heap.size w w0 := (Below.refl _ _).grown hgrow0 (Nat.le_refl _) (by intro k hk; cases hk)
  have hrow0 := Row.made hown0
  clear hown0 hgrow0
  go_wp2_with fail
  go_loopw [6, 7, 8, 9, 15] (fun cv _ _ _ iv wr => ∃ (k c : Nat) (L : List Nat), iv = .int .i64 k ∧ k ≤ a.length ∧ cv = .int .u64 c ∧ c ≤ 1 ∧ Hid (L.length = a.length ∧ lt9 L ∧ pv L + pv (b.take k) = pv (a.take k) + 1000000000 ^ k * c ∧ (∀ t (h : t < L.length), k ≤ t → L[t] = 0)) ∧ Row wr w.heap.size w.heap.size a.length L ∧ Below w.heap.size w wr) (fun _ _ _ _ iv _ => a.length - (intOf iv).toNat)
  case atStart =>
    refine ⟨0, 0, z0 a.length [], rfl, Nat.zero_le _, rfl, by omega, ⟨by rw [z0_len]; rfl, ?_, ?_, ?_⟩, hrow0, hbel0⟩
    · unfold z0; rw [List.append_nil]; exact lt9_replicate _
    · unfold z0; rw [List.append_nil, pv_replicate]; simp [pv]
    · intro t ht _; simp [z0]
  case round =>
    obtain ⟨k, c, L, rfl, hk, rfl, hc, HI, hrow, hbel⟩ := hrel
    have hLl := HI.1
    by_cases hlt : k < a.length
    · have hca := (HA.out.below hbel).cell k hlt
      have hx9 := lt9_at H9A.out k hlt
      have hta := pv_take_succ hlt
      obtain ⟨x, hx⟩ : ∃ x : Nat, x = a[k] := ⟨_, rfl⟩
      rw [← hx] at hca hx9 hta
      have hkL : k < L.length := by omega
      have hcp := hrow.cell k hkL
      have hl0 := HI.2.2.2 k hkL (Nat.le_refl _)
      rw [hl0] at hcp
      have hfp := hrow.free k
      have HR := Lib.hid hrow
      have HBL := Lib.hid hbel
      have hzero : ∀ v, ∀ t (h : t < (L.set k v).length), k + 1 ≤ t → (L.set k v)[t] = 0 := fun v t ht hkt => by
        rw [List.getElem_set_ne (by omega)]
        exact HI.2.2.2 t (by rw [List.length_set] at ht; exact ht) (by omega)
      have HZ := Lib.hid hzero
      by_cases hkb : k < b.length
      · have hcb := (HB.out.below hbel).cell k hkb
        have hy9 := lt9_at H9B.out k hkb
        have htb := pv_take_succ hkb
        obtain ⟨y, hy⟩ : ∃ y : Nat, y = b[k] := ⟨_, rfl⟩
        rw [← hy] at hcb hy9 htb
        by_cases hbw : x < c + y
        · have HST := Lib.hid (show pv (L.set k (x + 1000000000 - (c + y))) + pv (b.take (k + 1)) = pv (a.take (k + 1)) + 1000000000 ^ (k + 1) * 1 by
            rw [hta, htb]; exact sub_step (c := c + y) hkL hl0 HI.2.2.1 (by omega) rfl)
          clear hx hy hta htb hl0 hrow hbel hkL hzero
          go_wp2_with fail
          all_goals go_roundw
          case rel =>
            have e := HR.out.set k (x + 1000000000 - (c + y))
            have e2 : ((x + 1000000000 - (c + y) : Nat) : Int) = (x : Int) + 1000000000 - ((c : Int) + (y : Int)) := by omega
            rw [e2] at e
            exact ⟨k + 1, 1, L.set k (x + 1000000000 - (c + y)), by go_num, by omega, rfl, by omega, ⟨by rw [List.length_set]; exact HI.1, lt9_set HI.2.1 (by omega), HST.out, HZ.out _⟩, e, HBL.out.setCell (Nat.le_refl _) _⟩
          case measure => simp [intOf] <;> omega
        · have HST := Lib.hid (show pv (L.set k (x - (c + y))) + pv (b.take (k + 1)) = pv (a.take (k + 1)) + 1000000000 ^ (k + 1) * 0 by
            rw [hta, htb]; exact sub_step (c := c + y) hkL hl0 HI.2.2.1 (by omega) rfl)
          clear hx hy hta htb hl0 hrow hbel hkL hzero
          go_wp2_with fail
          all_goals go_roundw
          case rel =>
            have e := HR.out.set k (x - (c + y))
            have e2 : ((x - (c + y) : Nat) : Int) = (x : Int) - ((c : Int) + (y : Int)) := by omega
            rw [e2] at e
            exact ⟨k + 1, 0, L.set k (x - (c + y)), by go_num, by omega, rfl, by omega, ⟨by rw [List.length_set]; exact HI.1, lt9_set HI.2.1 (by omega), HST.out, HZ.out _⟩, e, HBL.out.setCell (Nat.le_refl _) _⟩
          case measure => simp [intOf] <;> omega
      · have htb : b.take (k + 1) = b.take k := by rw [List.take_of_length_le (by omega), List.take_of_length_le (by omega)]
        by_cases hbw : x < c
        · have HST := Lib.hid (show pv (L.set k (x + 1000000000 - c)) + pv (b.take (k + 1)) = pv (a.take (k + 1)) + 1000000000 ^ (k + 1) * 1 by
            have := sub_step (y := 0) (x := x) (bo' := 1) (v := x + 1000000000 - c) (c := c) hkL hl0 HI.2.2.1 (by omega) (by omega)
            rw [hta, htb]; simpa using this)
          clear hx hta htb hl0 hrow hbel hkL hzero
          go_wp2_with fail
          all_goals go_roundw
          case rel =>
            have e := HR.out.set k (x + 1000000000 - c)
            have e2 : ((x + 1000000000 - c : Nat) : Int) = (x : Int) + 1000000000 - (c : Int) := by omega
            rw [e2] at e
            exact ⟨k + 1, 1, L.set k (x + 1000000000 - c), by go_num, by omega, rfl, by omega, ⟨by rw [List.length_set]; exact HI.1, lt9_set HI.2.1 (by omega), HST.out, HZ.out _⟩, e, HBL.out.setCell (Nat.le_refl _) _⟩
          case measure => simp [intOf] <;> omega
        · have HST := Lib.hid (show pv (L.set k (x - c)) + pv (b.take (k + 1)) = pv (a.take (k + 1)) + 1000000000 ^ (k + 1) * 0 by
            have := sub_step (y := 0) (x := x) (bo' := 0) (v := x - c) (c := c) hkL hl0 HI.2.2.1 (by omega) (by omega)
            rw [hta, htb]; simpa using this)
          clear hx hta htb hl0 hrow hbel hkL hzero
          go_wp2_with fail
          all_goals go_roundw
          case rel =>
            have e := HR.out.set k (x - c)
            have e2 : ((x - c : Nat) : Int) = (x : Int) - (c : Int) := by omega
            rw [e2] at e
            exact ⟨k + 1, 0, L.set k (x - c), by go_num, by omega, rfl, by omega, ⟨by rw [List.length_set]; exact HI.1, lt9_set HI.2.1 (by omega), HST.out, HZ.out _⟩, e, HBL.out.setCell (Nat.le_refl _) _⟩
          case measure => simp [intOf] <;> omega
    · obtain rfl : k = a.length := by omega
      have hpv : pv L = pv a - pv b := by
        have h2 := HI.2.2.1
        rw [List.take_length, List.take_of_length_le (show b.length ≤ a.length by omega)] at h2
        have h3 := pv_lt L HI.2.1
        rw [HI.1] at h3
        have h4 := HLE.out
        rcases (show c = 0 ∨ c = 1 by omega) with h | h
        · rw [h] at h2; omega
        · rw [h] at h2; omega
      have ht := trim_any w.heap.size w.heap.size a.length L _ hrow
      rw [HI.1] at ht
      have HT := Lib.hid ht
      have HPV := Lib.hid hpv
      have HR2 := Lib.hid hrow
      have HB2 := Lib.hid hbel
      clear ht hpv hrow hbel
      go_wp2_with fail
      refine HT.out.mono ?_
      rintro e w1 ⟨rfl, rfl⟩
      go_wp2_with fail
      go_ret
      refine ⟨w.heap.size, a.length, trimP L, rfl, ?_, ?_, HB2.out⟩
      · rw [← HPV.out]; exact Pcs.of_trim HI.2.1
      · have := HR2.out.take (trimP L).length (trimP_props _).2.2.2.1
        rw [← (trimP_props L).2.2.2.2] at this; exact this
end Go.Proofs.YtjebddpapbopnaaGreatDoor

namespace Go.Proofs.YtjebddpapbopnaaGreatDoor
open Go.RowKit

theorem Pcs.add_len {p q r : List Nat} {a b c n : Nat} (hp : Pcs p a) (hq : Pcs q b) (hr : Pcs r c) (hc : c = a + b) (h1 : p.length ≤ n) (h2 : q.length ≤ n) : r.length ≤ n + 1 := by
  refine hr.len_of_lt ?_
  have k1 := pv_lt p hp.lt
  have k2 := pv_lt q hq.lt
  rw [hp.val] at k1
  rw [hq.val] at k2
  have k3 : (1000000000 : Nat) ^ p.length ≤ 1000000000 ^ n := Nat.pow_le_pow_right (by decide) h1
  have k4 : (1000000000 : Nat) ^ q.length ≤ 1000000000 ^ n := Nat.pow_le_pow_right (by decide) h2
  rw [hc, Nat.pow_succ]; omega

set_option maxHeartbeats 1600000 in
set_option maxRecDepth 100000 in
theorem addN_any (a b : Nat) (w : World) (hs : Std w) (ha : (str a).size ≤ 450000) (hb : (str b).size ≤ 450000) :
    Calls Tryz.prog 68 #[.string (str a), .string (str b)] w fun e w' => e = .returned (.string (str (a + b))) ∧ Below w.heap.size w w' := by
  have HCUT := Lib.hid (fun wx => cutBoth_any a b wx (by omega) (by omega))
  obtain ⟨s, hsum⟩ : ∃ s : Nat, s = a + b := ⟨_, rfl⟩
  have HSUM := Lib.hid hsum
  rw [← hsum]
  have HLONG := Lib.hid (fun (w3 : World) (g cap : Nat) (p : List Nat) (g' cap' : Nat) (q : List Nat) (B : Nat) (hp : Pcs p a) (hq : Pcs q b) (hrp : Row w3 B g cap p) (hrq : Row w3 B g' cap' q) =>
    add_any B g cap g' cap' p q w3 hrp hrq hp.lt hq.lt (by have := hp.len_le (n := 50000) (by omega); omega) (by have := hq.len_le (n := 50000) (by omega); omega))
  by_cases h64 : a < 18446744073709551616 ∧ b < 18446744073709551616
  · have HBY := Lib.hid (both_yes a b h64.1 h64.2 w)
    have ha0 := fun wx => Tryz.bits_Add64 a b 0 (by omega) wx
    by_cases hlt : s < 18446744073709551616
    · have hadd : ∀ wx, (callFunc 94 #[.int .u64 (a : Int), .int .u64 (b : Int), .int .u64 0]).run Tryz.prog wx = .ok (.value (.tuple #[.int .u64 (s : Int), .int .u64 0])) wx := fun wx => by
        have h := ha0 wx
        rw [Nat.add_zero, ← hsum, Nat.div_eq_of_lt hlt, Nat.mod_eq_of_lt hlt] at h
        exact h
      have HOF := Lib.hid (fun wx hx => of_any s hlt wx hx)
      clear ha0 hlt h64 hsum
      go_enter Tryz.func68, Tryz.ntmps68
      go_wp2_with fail
      refine HBY.out.mono ?_
      rintro e w1 ⟨rfl, hb1⟩
      go_wp2_with fail
      refine (HOF.out _ (hs.below hb1)).mono ?_
      rintro e w3 ⟨rfl, hb3⟩
      go_wp2_with fail
      go_ret
      exact ⟨rfl, hb1.trans (hb3.mono hb1.size)⟩
    · have hdv : s / 18446744073709551616 = 1 := by omega
      obtain ⟨l, hl⟩ : ∃ l : Nat, l = s % 18446744073709551616 := ⟨_, rfl⟩
      have hadd : ∀ wx, (callFunc 94 #[.int .u64 (a : Int), .int .u64 (b : Int), .int .u64 0]).run Tryz.prog wx = .ok (.value (.tuple #[.int .u64 (l : Int), .int .u64 1])) wx := fun wx => by
        have h := ha0 wx
        rw [Nat.add_zero, ← hsum, hdv, ← hl] at h
        exact h
      clear ha0 hlt h64 hsum hdv hl
      go_enter Tryz.func68, Tryz.ntmps68
      go_wp2_with fail
      refine HBY.out.mono ?_
      rintro e w1 ⟨rfl, hb1⟩
      go_wp2_with fail
      refine (HCUT.out _).mono ?_
      rintro e w3 ⟨g, cap, p, g', cap', q, rfl, hp, hq, hrp, hrq, hgg, hb3⟩
      have hlp := hp.len_le (n := 50000) (by omega)
      have hlq := hq.len_le (n := 50000) (by omega)
      have HMU := Lib.hid (HLONG.out w3 g cap p g' cap' q _ hp hq hrp hrq)
      rw [hp.val, hq.val, ← HSUM.out] at HMU
      have HP := Lib.hid hp
      have HQ := Lib.hid hq
      clear hp hq hrp hrq hgg
      go_wp2_with fail
      refine HMU.out.mono ?_
      rintro e w4 ⟨g2, cap2, r, rfl, hr, hrr, hb4⟩
      have hlr := HP.out.add_len HQ.out hr HSUM.out hlp hlq
      have HJ := Lib.hid (join_any _ g2 cap2 r s w4 hrr hr (by omega))
      clear hr hrr
      go_wp2_with fail
      refine HJ.out.mono ?_
      rintro e w5 ⟨rfl, hb5⟩
      go_wp2_with fail
      go_ret
      exact ⟨rfl, ((hb1.trans (hb3.mono hb1.size)).trans (hb4.mono (Nat.le_trans hb1.size hb3.size))).trans (hb5.mono (Nat.le_trans (Nat.le_trans hb1.size hb3.size) hb4.size))⟩
  · have HBN := Lib.hid (both_no a b h64 w hs)
    clear h64 hsum
    go_enter Tryz.func68, Tryz.ntmps68
    go_wp2_with fail
    refine HBN.out.mono ?_
    rintro e w1 ⟨x, y, rfl, hb1⟩
    go_wp2_with fail
    refine (HCUT.out _).mono ?_
    rintro e w3 ⟨g, cap, p, g', cap', q, rfl, hp, hq, hrp, hrq, hgg, hb3⟩
    have hlp := hp.len_le (n := 50000) (by omega)
    have hlq := hq.len_le (n := 50000) (by omega)
    have HMU := Lib.hid (HLONG.out w3 g cap p g' cap' q _ hp hq hrp hrq)
    rw [hp.val, hq.val, ← HSUM.out] at HMU
    have HP := Lib.hid hp
    have HQ := Lib.hid hq
    clear hp hq hrp hrq hgg
    go_wp2_with fail
    refine HMU.out.mono ?_
    rintro e w4 ⟨g2, cap2, r, rfl, hr, hrr, hb4⟩
    have hlr := HP.out.add_len HQ.out hr HSUM.out hlp hlq
    have HJ := Lib.hid (join_any _ g2 cap2 r s w4 hrr hr (by omega))
    clear hr hrr
    go_wp2_with fail
    refine HJ.out.mono ?_
    rintro e w5 ⟨rfl, hb5⟩
    go_wp2_with fail
    go_ret
    exact ⟨rfl, ((hb1.trans (hb3.mono hb1.size)).trans (hb4.mono (Nat.le_trans hb1.size hb3.size))).trans (hb5.mono (Nat.le_trans (Nat.le_trans hb1.size hb3.size) hb4.size))⟩

/-- the ways of Sub behind the quick one -/
theorem sub_size {a b : Nat} (ha : (str a).size ≤ 450000) (h : b ≤ a) : (str b).size ≤ 450000 := Nat.le_trans (size_mono h) ha

set_option maxHeartbeats 1600000 in
set_option maxRecDepth 100000 in
theorem subN_yes (a b : Nat) (w : World) (hs : Std w) (ha : (str a).size ≤ 450000) (hle : b ≤ a) :
    Calls Tryz.prog 69 #[.string (str a), .string (str b)] w fun e w' => e = .returned (.tuple #[.string (str (a - b)), .int .i64 0]) ∧ Below w.heap.size w w' := by
  have hb := sub_size ha hle
  have HCUT := Lib.hid (fun wx => cutBoth_any a b wx (by omega) (by omega))
  obtain ⟨s, hsum⟩ : ∃ s : Nat, s = a - b := ⟨_, rfl⟩
  have HSUM := Lib.hid hsum
  rw [← hsum]
  by_cases h64 : a < 18446744073709551616 ∧ b < 18446744073709551616
  · have HBY := Lib.hid (both_yes a b h64.1 h64.2 w)
    have HOF := Lib.hid (fun wx hx => of_any s (by omega) wx hx)
    have hsub : (a : Int) - (b : Int) = (s : Int) := by omega
    have hge : (b : Int) ≤ (a : Int) := by omega
    have hwr : IntKind.u64.wrap (s : Int) = (s : Int) := by rw [IntKind.wrap_u64]; omega
    clear h64 hsum hle
    go_enter Tryz.func69, Tryz.ntmps69
    go_wp2_with fail
    refine HBY.out.mono ?_
    rintro e w1 ⟨rfl, hb1⟩
    go_wp2_with fail
    refine (HOF.out _ (hs.below hb1)).mono ?_
    rintro e w3 ⟨rfl, hb3⟩
    go_wp2_with fail
    go_ret2
    exact ⟨rfl, hb1.trans (hb3.mono hb1.size)⟩
  · have HBN := Lib.hid (both_no a b h64 w hs)
    have hc : ¬ cmpN a b < 0 := by
      unfold cmpN; rw [if_neg (by omega)]; split <;> decide
    have HCM := Lib.hid (fun wx => compare_any a b wx)
    obtain ⟨c, hcc⟩ : ∃ c, c = cmpN a b := ⟨_, rfl⟩
    rw [← hcc] at hc HCM
    have HLE := Lib.hid hle
    clear h64 hsum hcc hle
    go_enter Tryz.func69, Tryz.ntmps69
    go_wp2_with fail
    refine HBN.out.mono ?_
    rintro e w1 ⟨x, y, rfl, hb1⟩
    go_wp2_with fail
    refine (HCUT.out _).mono ?_
    rintro e w3 ⟨g, cap, p, g', cap', q, rfl, hp, hq, hrp, hrq, hgg, hb3⟩
    have hlp := hp.len_le (n := 50000) (by omega)
    have hlq := hp.len_mono hq HLE.out
    have HMU := Lib.hid (subtract_any _ g cap g' cap' p q w3 hrp hrq hp.lt hq.lt (by omega) hlq (by rw [hp.val, hq.val]; exact HLE.out))
    rw [hp.val, hq.val, ← HSUM.out] at HMU
    have HP := Lib.hid hp
    clear hp hq hrp hrq hgg
    go_wp2_with fail
    refine (HCM.out _).mono ?_
    rintro e w4 ⟨rfl, rfl⟩
    go_wp2_with fail
    refine HMU.out.mono ?_
    rintro e w4 ⟨g2, cap2, r, rfl, hr, hrr, hb4⟩
    have hlr := HP.out.len_mono hr (by rw [HSUM.out]; omega)
    have HJ := Lib.hid (join_any _ g2 cap2 r s w4 hrr hr (by omega))
    clear hr hrr
    go_wp2_with fail
    refine HJ.out.mono ?_
    rintro e w5 ⟨rfl, hb5⟩
    go_wp2_with fail
    go_ret2
    exact ⟨rfl, ((hb1.trans (hb3.mono hb1.size)).trans (hb4.mono (Nat.le_trans hb1.size hb3.size))).trans (hb5.mono (Nat.le_trans (Nat.le_trans hb1.size hb3.size) hb4.size))⟩

set_option maxHeartbeats 1600000 in
set_option maxRecDepth 100000 in
theorem subN_no (a b : Nat) (w : World) (hs : Std w) (hb : (str b).size ≤ 450000) (hlt : a < b) :
    Calls Tryz.prog 69 #[.string (str a), .string (str b)] w fun e w' => e = .returned (.tuple #[.string ⟨#[]⟩, .int .i64 3]) ∧ Below w.heap.size w w' := by
  have ha := sub_size hb (Nat.le_of_lt hlt)
  have HCUT := Lib.hid (fun wx => cutBoth_any a b wx (by omega) (by omega))
  have HCM := Lib.hid (fun wx => compare_any a b wx)
  rw [cmp_lt hlt] at HCM
  by_cases h64 : a < 18446744073709551616 ∧ b < 18446744073709551616
  · have HBY := Lib.hid (both_yes a b h64.1 h64.2 w)
    have hge : ¬ (b : Int) ≤ (a : Int) := by omega
    clear h64 hlt
    go_enter Tryz.func69, Tryz.ntmps69
    go_wp2_with fail
    refine HBY.out.mono ?_
    rintro e w1 ⟨rfl, hb1⟩
    go_wp2_with fail
    refine (HCUT.out _).mono ?_
    rintro e w3 ⟨g, cap, p, g', cap', q, rfl, hp, hq, hrp, hrq, hgg, hb3⟩
    clear hp hq hrp hrq hgg
    go_wp2_with fail
    refine (HCM.out _).mono ?_
    rintro e w4 ⟨rfl, rfl⟩
    go_wp2_with fail
    go_ret2
    exact ⟨rfl, hb1.trans (hb3.mono hb1.size)⟩
  · have HBN := Lib.hid (both_no a b h64 w hs)
    clear h64 hlt
    go_enter Tryz.func69, Tryz.ntmps69
    go_wp2_with fail
    refine HBN.out.mono ?_
    rintro e w1 ⟨x, y, rfl, hb1⟩
    go_wp2_with fail
    refine (HCUT.out _).mono ?_
    rintro e w3 ⟨g, cap, p, g', cap', q, rfl, hp, hq, hrp, hrq, hgg, hb3⟩
    clear hp hq hrp hrq hgg
    go_wp2_with fail
    refine (HCM.out _).mono ?_
    rintro e w4 ⟨rfl, rfl⟩
    go_wp2_with fail
    go_ret2
    exact ⟨rfl, hb1.trans (hb3.mono hb1.size)⟩
end Go.Proofs.YtjebddpapbopnaaGreatDoor

namespace Go.Proofs.YtjebddpapbopnaaGreatDoor
open Go.RowKit

theorem IsRow.len_bd {k : IntKind} {w : World} {a : Option Addr} {len cap : Nat} {zs : List Int} (h : IsRow k w a len cap zs) : len ≤ 9223372036854775807 := by
  rcases h with ⟨_, h, _⟩ | ⟨x, _, h2, h3, _⟩
  · omega
  · unfold maxLen at h3; omega
theorem size120 {n m : Nat} (h : n < 10 ^ (min m 120)) : (str n).size ≤ 120 :=
  str_big (Nat.lt_of_lt_of_le h (Nat.pow_le_pow_right (by decide) (Nat.min_le_right _ _))) (by decide)
theorem size_add {a b n m : Nat} (ha : (str a).size ≤ n) (hb : (str b).size ≤ m) : (str (a + b)).size ≤ n + m + 1 := by
  refine str_big ?_ (by omega)
  have h1 := lt_of_size ha
  have h2 := lt_of_size hb
  have h3 : 10 ^ n ≤ 10 ^ (n + m) := Nat.pow_le_pow_right (by decide) (by omega)
  have h4 : 10 ^ m ≤ 10 ^ (n + m) := Nat.pow_le_pow_right (by decide) (by omega)
  rw [Nat.pow_succ]; omega
theorem addTo {x y z : Nat} (h : x + y = z) (w : World) (hs : Std w) (hx : (str x).size ≤ 450000) (hy : (str y).size ≤ 450000) :
    Calls Tryz.prog 68 #[.string (str x), .string (str y)] w fun e w' => e = .returned (.string (str z)) ∧ Below w.heap.size w w' := by
  rw [← h]; exact addN_any x y w hs hx hy
theorem mulTo {x y z : Nat} (h : x * y = z) (w : World) (hs : Std w) (hx : (str x).size ≤ 450000) (hy : (str y).size ≤ 450000) :
    Calls Tryz.prog 73 #[.string (str x), .string (str y)] w fun e w' => e = .returned (.string (str z)) ∧ Below w.heap.size w w' := by
  rw [← h]; exact mul_any x y w hs hx hy
theorem subTo {x y z : Nat} (h : x = z + y) (w : World) (hs : Std w) (hx : (str x).size ≤ 450000) :
    Calls Tryz.prog 69 #[.string (str x), .string (str y)] w fun e w' => e = .returned (.tuple #[.string (str z), .int .i64 0]) ∧ Below w.heap.size w w' := by
  have := subN_yes x y w hs hx (by omega)
  rw [show x - y = z by omega] at this; exact this


end Go.Proofs.YtjebddpapbopnaaGreatDoor

namespace Go.Proofs.YtjebddpapbopnaaGreatDoor
open Go.RowKit

/-- k is the number of binary digits of N -/
def BitsOf (N k : Nat) : Prop := N < 2 ^ k ∧ (k = 0 ∨ 2 ^ (k - 1) ≤ N)
theorem BitsOf.unique {N k m : Nat} (h : BitsOf N k) (h' : BitsOf N m) : k = m := by
  have aux : ∀ {a b : Nat}, BitsOf N a → BitsOf N b → a ≤ b := fun {a b} ha hb => by
    apply Nat.le_of_not_lt; intro hlt
    rcases ha.2 with h0 | h1
    · omega
    · have h2 : 2 ^ b ≤ 2 ^ (a - 1) := Nat.pow_le_pow_right (by decide) (by omega)
      have := hb.1; omega
  exact Nat.le_antisymm (aux h h') (aux h' h)
theorem BitsOf.zero : BitsOf 0 0 := ⟨by decide, .inl rfl⟩
theorem bitsOf_bitLen {n : Nat} (h : n < 18446744073709551616) : BitsOf n (Lib.bitLen n) := by
  by_cases h0 : n = 0
  · subst h0; exact ⟨by decide, .inl (by decide)⟩
  · have h1 := Lib.bitLenAux_bounds 64 n (by omega) h0
    exact ⟨h1.2.2, .inr h1.2.1⟩
theorem BitsOf.shift {N j k : Nat} (h : BitsOf (N / 2 ^ j) k) (h0 : 0 < N / 2 ^ j) : BitsOf N (k + j) := by
  have hp : 0 < 2 ^ j := Nat.pow_pos (by decide)
  have hk : k ≠ 0 := by intro e; subst e; have := h.1; rw [Nat.pow_zero] at this; omega
  obtain ⟨h1, h2⟩ := h
  refine ⟨?_, .inr ?_⟩
  · rw [Nat.pow_add]; exact (Nat.div_lt_iff_lt_mul hp).1 h1
  · rcases h2 with h2 | h2
    · exact absurd h2 hk
    · rw [show k + j - 1 = (k - 1) + j by omega, Nat.pow_add]; exact (Nat.le_div_iff_mul_le hp).1 h2
theorem take_set {L Q : List Nat} {j v : Nat} (hj : j < L.length) : (L.take (j + 1) ++ Q).set j v = L.take j ++ (v :: Q) := by
  have hl : (L.take j).length = j := by rw [List.length_take]; omega
  rw [List.take_succ_eq_append_getElem hj, List.append_assoc, List.set_append_right _ _ (by omega), hl, Nat.sub_self]; rfl
theorem take_at {L Q : List Nat} {j : Nat} (hj : j < L.length) (h : j < (L.take (j + 1) ++ Q).length) : (L.take (j + 1) ++ Q)[j]'h = L[j] := by
  rw [List.getElem_append_left (by rw [List.length_take]; omega), List.getElem_take]
theorem and_mask (T : Nat) (h : T < 18446744073709551616) : bits BinOp.and IntKind.u64 (T : Int) 4294967295 = ((T % 4294967296 : Nat) : Int) := by
  have := bits_and_u64_nat T 4294967295 (by omega) (by omega)
  rw [show (4294967295 : Nat) = 2 ^ 32 - 1 from rfl, Nat.and_two_pow_sub_one_eq_mod] at this
  exact this


end Go.Proofs.YtjebddpapbopnaaGreatDoor

namespace Go.Proofs.YtjebddpapbopnaaGreatDoor
open Go.RowKit

end Go.Proofs.YtjebddpapbopnaaGreatDoor

namespace Go.Proofs.YtjebddpapbopnaaGreatDoor
open Go.RowKit

set_option maxHeartbeats 800000 in
set_option maxRecDepth 100000 in
theorem pow_ok (a n : Nat) (w : World) (hs : Std w) (ha : (str a).size ≤ 20000) (hn : n < 9223372036854775808) (hsz : (str (a ^ n)).size ≤ 20000) :
    Calls Tryz.prog 75 #[.string (str a), .int .i64 n] w fun e w' => e = .returned (.tuple #[.string (str (a ^ n)), .int .i64 0]) ∧ Below w.heap.size w w' := by
  by_cases h0 : n = 0
  · subst h0
    have h1 : str (a ^ 0) = ⟨#[49]⟩ := by rw [Nat.pow_zero]; exact (str_eq 1 (by decide) (by decide)).symm
    have hcan := Lib.hid (canon_str a)
    rw [h1]
    clear h1
    go_enter Tryz.func75, Tryz.ntmps75
    go_wp2_with (go_at_call 82; refine (canonical_any _ _ (by omega)).mono ?_; rintro e w' ⟨rfl, rfl⟩; rw [hcan.out])
    go_ret2
    exact ⟨rfl, Below.refl _ _⟩
  · refine (power_any a n w hs ha (by omega) hn).mono ?_
    rintro e w' ⟨h, hb⟩
    refine ⟨?_, hb⟩
    rcases h with ⟨_, h⟩ | ⟨h, _⟩
    · exact h
    · omega
theorem powTo {a n m z : Nat} {i : Int} (hi : i = (n : Int)) (h : a ^ n = z) (w : World) (hs : Std w) (ha : (str a).size ≤ m) (hm : m ≤ 20000) (hn : n ≤ 2000) (hsz : (str z).size ≤ 20000) :
    Calls Tryz.prog 75 #[.string (str a), .int .i64 i] w fun e w' => e = .returned (.tuple #[.string (str z), .int .i64 0]) ∧ Below w.heap.size w w' := by
  rw [hi, ← h]; exact pow_ok a n w hs (by omega) (by omega) (by rw [h]; exact hsz)
theorem size_pow_le {a s : Nat} (ha : (str a).size ≤ s) (n : Nat) : (str (a ^ n)).size ≤ s * n + 1 := by
  refine str_big ?_ (by omega)
  have h1 := lt_of_size ha
  have h2 : a ^ n ≤ (10 ^ s) ^ n := Nat.pow_le_pow_left (Nat.le_of_lt h1) n
  rw [← Nat.pow_mul] at h2
  rw [Nat.pow_succ]
  have : 0 < 10 ^ (s * n) := Nat.pow_pos (by decide)
  omega
theorem bits_bound' {z k s : Nat} (h : BitsOf z k) (hs : (str z).size ≤ s) : k ≤ 4 * s + 1 := by
  rcases h.2 with h0 | h0
  · omega
  · have h1 := lt_of_size hs
    have h2 : (10 : Nat) ^ s ≤ (2 ^ 4) ^ s := Nat.pow_le_pow_left (by decide) _
    rw [← Nat.pow_mul] at h2
    have h3 : 2 ^ (k - 1) < 2 ^ (4 * s) := by omega
    have := (Nat.pow_lt_pow_iff_right (a := 2) (by decide)).1 h3
    omega
theorem bits_bound {z k : Nat} (h : BitsOf z k) (hs : (str z).size ≤ 301) : k ≤ 1205 := bits_bound' h hs
theorem str0 : str 0 = ⟨#[48]⟩ := (str_eq 0 (by decide) (by decide)).symm
theorem str2 : str 2 = ⟨#[50]⟩ := (str_eq 2 (by decide) (by decide)).symm

end Go.Proofs.YtjebddpapbopnaaGreatDoor

namespace Go.Proofs.YtjebddpapbopnaaGreatDoor
open Go.RowKit

theorem str_at (a q : Nat) (h : q < (str a).size) : ((str a)[q]'h) = Lib.dg a ((str a).size - 1 - q) := by
  rw [← at_list]
  simp only [str_list, Lib.decDigits_eq, List.getElem_map, List.getElem_range, str_size]


theorem drop_val {L : List UInt8} {k : Nat} (h : k < L.length) (h0 : L[k] = 48) : val (L.drop (k + 1)) = val (L.drop k) := by
  rw [List.drop_eq_getElem_cons h, h0, val_cons]; simp
theorem all_drop {L : List UInt8} (h : L.all isD = true) (k : Nat) : (L.drop k).all isD = true :=
  List.all_eq_true.2 fun x hx => List.all_eq_true.1 h x (List.mem_of_mem_drop hx)
theorem head_one (c : UInt8) : headOk [c] = true := by
  unfold headOk
  by_cases hc : c = 48
  · rw [hc]; rfl
  · simp
theorem head_cons {c : UInt8} {l : List UInt8} (hc : c ≠ 48) : headOk (c :: l) = true := by
  unfold headOk; simp [hc]
theorem drop_canon {L : List UInt8} {k : Nat} (h : L.all isD = true) (hk : k < L.length) (h0 : k + 1 = L.length ∨ L[k] ≠ 48) : canonL (L.drop k) = true := by
  unfold canonL
  rw [all_drop h k, List.drop_eq_getElem_cons hk]
  rcases h0 with h0 | h0
  · rw [List.drop_of_length_le (by omega), head_one]; rfl
  · rw [head_cons h0]; rfl


theorem mod_step (a k : Nat) : a % 10 ^ (k + 1) = a % 10 ^ k + 10 ^ k * (a / 10 ^ k % 10) := by rw [Nat.pow_succ, Nat.mod_mul]
theorem addR_step {S : List UInt8} {a b k c d : Nat} (hl : S.length = k) (h : val S + 10 ^ k * c = a % 10 ^ k + b % 10 ^ k) (hd : d = a / 10 ^ k % 10 + b / 10 ^ k % 10 + c) :
    val (UInt8.ofNat (48 + d % 10) :: S) + 10 ^ (k + 1) * (d / 10) = a % 10 ^ (k + 1) + b % 10 ^ (k + 1) := by
  have h1 : 10 ^ (k + 1) * (d / 10) + (d % 10) * 10 ^ k = 10 ^ k * d := by
    rw [Nat.pow_succ, Nat.mul_assoc, Nat.mul_comm (d % 10), ← Nat.mul_add, Nat.div_add_mod]
  have h2 : 10 ^ k * d = 10 ^ k * (a / 10 ^ k % 10) + 10 ^ k * (b / 10 ^ k % 10) + 10 ^ k * c := by rw [hd, Nat.mul_add, Nat.mul_add]
  rw [val_cons, ofNat_dig (Nat.mod_lt _ (by decide)), hl, mod_step, mod_step, show 48 + d % 10 - 48 = d % 10 by omega]
  omega
theorem all_cons' {S : List UInt8} {d : Nat} (h : S.all isD = true) (hd : d < 10) : (UInt8.ofNat (48 + d) :: S).all isD = true := by
  rw [List.all_cons, ofNat_isD hd, h]; rfl
theorem RowB.made {w : World} {B g n : Nat} (h : w.ownsRow B 5 1 (.slice (some ⟨g, 0, none⟩) n n) n (madeCells (Value.int .u8 0).cells (n * 1)).toList) : RowB w B g n n (dig0 n []) := by
  refine ⟨by rw [dig0_len]; simp, ?_⟩
  have e : c8 (dig0 n []) = (madeCells (Value.int .u8 0).cells (n * 1)).toList := by
    rw [show (Value.int .u8 0).cells = #[.int .u8 0] from rfl, toList_madeCells_one, Nat.mul_one]; simp [c8, dig0]
  rw [e]; exact h
theorem dig0_set' {N k : Nat} (S : List UInt8) (c : UInt8) (hk : k < N) : (dig0 (N - k) S).set (N - 1 - k) c = dig0 (N - (k + 1)) (c :: S) := by
  obtain ⟨q, hq⟩ : ∃ q, N = k + q + 1 := ⟨N - 1 - k, by omega⟩
  subst hq
  rw [show k + q + 1 - k = q + 1 by omega, show k + q + 1 - 1 - k = q by omega, show k + q + 1 - (k + 1) = q by omega, dig0_set]

end Go.Proofs.YtjebddpapbopnaaGreatDoor

namespace Go.Proofs.YtjebddpapbopnaaGreatDoor
open Go.RowKit

theorem minusR_step {S : List UInt8} {a b k c c' v : Nat} (hl : S.length = k) (hv9 : v < 10) (h : val S + b % 10 ^ k = a % 10 ^ k + 10 ^ k * c) (hv : v + b / 10 ^ k % 10 + c = a / 10 ^ k % 10 + 10 * c') :
    val (UInt8.ofNat (48 + v) :: S) + b % 10 ^ (k + 1) = a % 10 ^ (k + 1) + 10 ^ (k + 1) * c' := by
  have h1 : 10 ^ k * (v + b / 10 ^ k % 10 + c) = 10 ^ k * (a / 10 ^ k % 10 + 10 * c') := by rw [hv]
  have h2 : 10 ^ k * (v + b / 10 ^ k % 10 + c) = 10 ^ k * v + 10 ^ k * (b / 10 ^ k % 10) + 10 ^ k * c := by rw [Nat.mul_add, Nat.mul_add]
  have h3 : 10 ^ k * (a / 10 ^ k % 10 + 10 * c') = 10 ^ k * (a / 10 ^ k % 10) + 10 ^ (k + 1) * c' := by rw [Nat.mul_add, ← Nat.mul_assoc, ← Nat.pow_succ]
  rw [h2, h3] at h1
  rw [val_cons, ofNat_dig hv9, hl, mod_step, mod_step, show 48 + v - 48 = v by omega, Nat.mul_comm v]
  omega

end Go.Proofs.YtjebddpapbopnaaGreatDoor

namespace Go.Proofs.YtjebddpapbopnaaGreatDoor
open Go.RowKit

theorem sub_step_val (s : ByteArray) (i a : Nat) (h : i < s.size) (ha : a ≤ i) : val ((s.data.toList.take (i + 1)).drop a) = val ((s.data.toList.take i).drop a) * 10 + ((s[i]'h).toNat - 48) := by
  rw [List.take_succ_eq_append_getElem (by rw [len_list]; exact h), List.drop_append_of_le_length (by rw [List.length_take, len_list]; omega), val_snoc, at_list s i h]; omega
theorem sub_lt {s : ByteArray} (hd : s.data.toList.all isD = true) (i a : Nat) (hi : i ≤ s.size) : val ((s.data.toList.take i).drop a) < 10 ^ (i - a) := by
  have h1 := val_lt _ (all_sub hd a i)
  rw [List.length_drop, List.length_take, len_list, Nat.min_eq_left hi] at h1; exact h1

end Go.Proofs.YtjebddpapbopnaaGreatDoor

namespace Go.Proofs.YtjebddpapbopnaaGreatDoor
open Go.RowKit

theorem Row.drewN {w : World} {B g cap : Nat} {l : List Nat} (h : Row w B g cap l) (n : Nat) : Row (w.drewN n) B g cap l := h
theorem j0_set (m : Nat) (S : List UInt8) (c : UInt8) : (48 :: dig0 (m + 1) S).set (m + 1) c = 48 :: dig0 m (c :: S) := by
  rw [List.set_cons_succ, dig0_set]

theorem joinR_c0 {w : World} {B g N : Nat} (h : RowB w B g N N (dig0 N [])) (hN : 0 < N) : ∃ c0 : Int, w.cell? ⟨g, 0, none⟩ = some (.int .u8 c0) :=
  ⟨_, h.cell 0 (by rw [dig0_len]; simpa using hN)⟩

end Go.Proofs.YtjebddpapbopnaaGreatDoor

namespace Go.Proofs.YtjebddpapbopnaaGreatDoor
open Go.RowKit

end Go.Proofs.YtjebddpapbopnaaGreatDoor

namespace Go.Proofs.YtjebddpapbopnaaGreatDoor
open Go.RowKit

theorem str1 : str 1 = ⟨#[49]⟩ := (str_eq 1 (by decide) (by decide)).symm
theorem is0 (a : Nat) : ((str a).toList == [48]) = decide (a = 0) := by
  have := str_beq a 0
  rw [str0, show (⟨#[48]⟩ : ByteArray).toList = [48] by rw [tl]] at this; exact this
theorem is1 (a : Nat) : ((str a).toList == [49]) = decide (a = 1) := by
  have := str_beq a 1
  rw [str1, show (⟨#[49]⟩ : ByteArray).toList = [49] by rw [tl]] at this; exact this
theorem size_small {a : Nat} (h : a ≤ 1) : (str a).size ≤ 1 := str_big (by omega) (by decide)
theorem pow_small {a n : Nat} (h : a ≤ 1) : a ^ n ≤ 1 := by
  rcases (show a = 0 ∨ a = 1 by omega) with rfl | rfl
  · cases n <;> simp
  · simp
theorem size_lower {v n : Nat} (h : 10 ^ n ≤ v) : n < (str v).size := by
  apply Nat.lt_of_not_le; intro hle
  have h1 := lt_of_size hle
  omega
theorem pow_big1 {a n q : Nat} (hq : (str a).size = q + 1) (ha : 0 < a) : q * n < (str (a ^ n)).size := by
  refine size_lower ?_
  have h1 := pow_nDigits_le ha
  rw [← str_size, hq] at h1
  rw [Nat.pow_mul]
  exact Nat.pow_le_pow_left h1 n
theorem pow_big2 {a n : Nat} (ha : 2 ≤ a) : n / 4 < (str (a ^ n)).size := by
  refine size_lower ?_
  have h1 : (10 : Nat) ^ (n / 4) ≤ (2 ^ 4) ^ (n / 4) := Nat.pow_le_pow_left (by decide) _
  rw [← Nat.pow_mul] at h1
  have h2 : (2 : Nat) ^ (4 * (n / 4)) ≤ 2 ^ n := Nat.pow_le_pow_right (by decide) (by omega)
  have h3 : 2 ^ n ≤ a ^ n := Nat.pow_le_pow_left ha n
  omega

set_option maxHeartbeats 400000 in
theorem power_neg (s : ByteArray) (n : Int) (w : World) (h : n < 0) :
    Calls Tryz.prog 75 #[.string s, .int .i64 n] w fun e w' => e = .returned (.tuple #[.string ⟨#[]⟩, .int .i64 3]) ∧ w = w' := by
  go_enter Tryz.func75, Tryz.ntmps75
  go_wp2_with fail
  go_ret2
  exact ⟨rfl, rfl⟩


theorem max_bound {q N S : Nat} (h1 : q * N < S) (h2 : N / 4 < S) (hq : q ≤ 19) (hS : S ≤ 20000) : max (wrap64 ((q : Int) * min (N : Int) 30000)) (min (N : Int) 100000 / 4) ≤ 20000 := by
  obtain ⟨m, hm, hm2, hm3⟩ : ∃ m : Nat, min (N : Int) 30000 = (m : Int) ∧ m ≤ N ∧ m ≤ 30000 := ⟨min N 30000, by omega, by omega, by omega⟩
  have h3 : q * m ≤ q * N := Nat.mul_le_mul_left q hm2
  have h4 : q * m ≤ 19 * 30000 := Nat.mul_le_mul hq hm3
  rw [hm, show ((q : Int) * (m : Int)) = ((q * m : Nat) : Int) by push_cast; rfl, show wrap64 ((q * m : Nat) : Int) = ((q * m : Nat) : Int) by unfold wrap64; omega]
  omega

end Go.Proofs.YtjebddpapbopnaaGreatDoor

namespace Go.Proofs.YtjebddpapbopnaaGreatDoor
open Go.RowKit

theorem dd_step (r d : Nat) (hr : 0 < r) (hd : d < 10) : Lib.decDigits (10 * r + d) = Lib.decDigits r ++ [UInt8.ofNat (48 + d)] := by
  rw [dd_big (by omega), show (10 * r + d) / 10 = r by omega, show (10 * r + d) % 10 = d by omega]
theorem str_data (a : Nat) : (str a).data.toList = Lib.decDigits a := str_list a
theorem canonL_str (a : Nat) : canonL (str a).data.toList = true := by rw [str_list]; exact canon_dd a
theorem app_str (r d : Nat) (hr : 0 < r) (hd : d < 10) : str r ++ str d = str (10 * r + d) := by
  have e : (str r ++ str d).data.toList = Lib.decDigits (10 * r + d) := by
    rw [dd_step r d hr hd, ← dd_small hd]
    simp [str_list]
  refine str_eq _ ?_ ?_
  · rw [e]; exact canon_dd _
  · rw [e]; exact val_dd _
theorem ext_one (a i : Nat) (h : i < (str a).size) : (str a).extract i (i + 1) = str (a / 10 ^ ((str a).size - 1 - i) % 10) := by
  have hl : i < (str a).data.toList.length := by rw [len_list]; exact h
  have e : ((str a).extract i (i + 1)).data.toList = Lib.decDigits (a / 10 ^ ((str a).size - 1 - i) % 10) := by
    rw [ext_list, List.take_succ_eq_append_getElem hl, List.drop_append_of_le_length (by rw [List.length_take]; omega), List.drop_of_length_le (by rw [List.length_take]; omega), List.nil_append, dd_small (Nat.mod_lt _ (by decide))]
    have h1 := str_at a i h
    rw [← at_list] at h1
    rw [h1]
    rfl
  refine str_eq _ ?_ ?_
  · rw [e]; exact canon_dd _
  · rw [e]; exact val_dd _
theorem RowB.below {w w' : World} {B g cap n : Nat} {l : List UInt8} (h : RowB w B g cap n l) (hb : Below w.heap.size w w') : RowB w' B g cap n l :=
  ⟨h.1, World.ownsRow.kept (row := none) h.2 ⟨hb.os, hb.tape, hb.output, hb.size, fun j hj _ => hb.block j hj⟩ (.inr (by simp [Value.ownBlock]))⟩
/-- digits, then zeros -/
def dz (S : List UInt8) (m : Nat) : List UInt8 := S ++ List.replicate m 0
theorem dz_set (S : List UInt8) (m : Nat) (c : UInt8) : (dz S (m + 1)).set S.length c = dz (S ++ [c]) m := by
  unfold dz
  rw [List.set_append_right _ _ (Nat.le_refl _), Nat.sub_self, List.replicate_succ, List.set_cons_zero]
  simp
theorem dz_len (S : List UInt8) (m : Nat) : (dz S m).length = S.length + m := by simp [dz]
theorem dz_nil (m : Nat) : dig0 m [] = dz [] m := by simp [dig0, dz]
theorem dz_zero (S : List UInt8) : dz S 0 = S := by simp [dz]
theorem all_snoc {S : List UInt8} {c : Nat} (h : S.all isD = true) (hc : c < 10) : (S ++ [UInt8.ofNat (48 + c)]).all isD = true := by
  rw [List.all_append, h]
  show (true && (isD (UInt8.ofNat (48 + c)) && true)) = true
  rw [ofNat_isD hc]; rfl
/-- one step of the division by hand -/
theorem long_step {A b d c x r : Nat} (hb : 0 < b) (hr : r = A % b) (h : c * b + x = 10 * r + d) (hx : x < b) : (10 * A + d) / b = 10 * (A / b) + c ∧ (10 * A + d) % b = x := by
  have h1 := Nat.div_add_mod A b
  rw [← hr] at h1
  have h2 : 10 * A + d = x + b * (10 * (A / b) + c) := by
    have : b * (10 * (A / b) + c) = 10 * (b * (A / b)) + c * b := by rw [Nat.mul_add, Nat.mul_left_comm, Nat.mul_comm c]
    omega
  rw [h2]
  exact ⟨by rw [Nat.add_mul_div_left _ _ hb, Nat.div_eq_of_lt hx, Nat.zero_add], by rw [Nat.add_mul_mod_self_left, Nat.mod_eq_of_lt hx]⟩


theorem cmp_ge {a b : Nat} : (0 ≤ cmpN a b) ↔ b ≤ a := by
  unfold cmpN
  by_cases h : a < b
  · rw [if_pos h]; constructor
    · intro h1; exact absurd h1 (by decide)
    · intro h1; omega
  · rw [if_neg h]
    constructor
    · intro _; omega
    · intro _; split <;> decide
theorem div_le9 {b c d r x : Nat} (h : c * b + x = 10 * r + d) (hx : b ≤ x) (hr : r < b) (hd : d < 10) : c < 9 := by
  apply Nat.lt_of_not_le; intro h9
  have : 9 * b ≤ c * b := Nat.mul_le_mul_right b h9
  omega
theorem size_x {b c d r x n : Nat} (h : c * b + x = 10 * r + d) (hr : r < b) (hd : d < 10) (hb : (str b).size ≤ n) : (str x).size ≤ n + 1 := by
  refine str_big ?_ (by omega)
  have h1 := lt_of_size hb
  have : 10 ^ (n + 1) = 10 * 10 ^ n := by rw [Nat.pow_succ, Nat.mul_comm]
  omega

end Go.Proofs.YtjebddpapbopnaaGreatDoor

namespace Go.Proofs.YtjebddpapbopnaaGreatDoor
open Go.RowKit


theorem str30 : str 1073741824 = ⟨#[49, 48, 55, 51, 55, 52, 49, 56, 50, 52]⟩ := (str_eq _ (by decide) (by decide)).symm
theorem two_le {a m s : Nat} (h : 2 ^ m ≤ a) (hs : (str a).size ≤ s) : m ≤ 4 * s := by
  have h1 := lt_of_size hs
  have h2 : (10 : Nat) ^ s ≤ (2 ^ 4) ^ s := Nat.pow_le_pow_left (by decide) _
  rw [← Nat.pow_mul] at h2
  have h3 : 2 ^ m < 2 ^ (4 * s) := by omega
  exact Nat.le_of_lt ((Nat.pow_lt_pow_iff_right (a := 2) (by decide)).1 h3)
theorem div_pos_le {X j : Nat} (h : 0 < X / 2 ^ j) : 2 ^ j ≤ X := by
  apply Nat.le_of_not_lt; intro h1
  rw [Nat.div_eq_of_lt h1] at h; omega
theorem bits_end {X j : Nat} (h : X / 2 ^ j = 0) (h0 : j = 0 ∨ 0 < X / 2 ^ (j - 1)) : BitsOf X j := by
  refine ⟨?_, ?_⟩
  · rcases Nat.div_eq_zero_iff.1 h with h1 | h1
    · exact absurd h1 (Nat.ne_of_gt (Nat.pow_pos (by decide)))
    · exact h1
  · rcases h0 with h0 | h0
    · exact .inl h0
    · exact .inr (div_pos_le h0)
theorem strval (X : Nat) : val (str X).data.toList = X := by rw [str_list]; exact val_dd X

end Go.Proofs.YtjebddpapbopnaaGreatDoor

namespace Go.Proofs.YtjebddpapbopnaaGreatDoor
open Go.RowKit

theorem wraps64 (n : Int) (h₀ : 0 ≤ n) (h₁ : n < 2 ^ 64) : IntKind.u64.wrap n = n := by rw [IntKind.wrap_u64]; omega
theorem u64and (a b : Nat) (ha : a < 2 ^ 64) (hb : b < 2 ^ 64) : bits .and .u64 (a : Int) (b : Int) = ((a &&& b : Nat) : Int) := (bits_nat .u64 64 (by decide) wraps64 a b ha hb).1
theorem u64or (a b : Nat) (ha : a < 2 ^ 64) (hb : b < 2 ^ 64) : bits .or .u64 (a : Int) (b : Int) = ((a ||| b : Nat) : Int) := (bits_nat .u64 64 (by decide) wraps64 a b ha hb).2
theorem low32 (V : Nat) (h : V < 2 ^ 64) : bits .and .u64 (V : Int) 4294967295 = ((V % 4294967296 : Nat) : Int) := by
  have h1 := u64and V 4294967295 h (by decide)
  have h2 : V &&& 4294967295 = V % 4294967296 := by
    rw [show (4294967295 : Nat) = 2 ^ 32 - 1 by decide, Nat.and_two_pow_sub_one_eq_mod]
  rw [h2] at h1; exact h1
structure Pack (hi lo y s Y a b H U V v x : Nat) : Prop where
  ybits : (s : Int) = 64 - (Lib.bitLen y : Int)
  s63 : s ≤ 63
  eY : Y = y * 2 ^ s
  Y0 : 9223372036854775808 ≤ Y
  Y1 : Y < 18446744073709551616
  eYi : IntKind.u64.wrap ((y : Int) * 2 ^ s) = (Y : Int)
  ea : (Y : Int) / 4294967296 = (a : Int)
  eb : bits BinOp.and IntKind.u64 (Y : Int) 4294967295 = (b : Int)
  eH : IntKind.u64.wrap ((hi : Int) * 2 ^ s) = (H : Int)
  eU : bits BinOp.or IntKind.u64 (H : Int) ((lo : Int) / 2 ^ (64 - s)) = (U : Int)
  eV : IntKind.u64.wrap ((lo : Int) * 2 ^ s) = (V : Int)
  V1 : V < 18446744073709551616
  ev : (V : Int) / 4294967296 = (v : Int)
  ex : bits BinOp.and IntKind.u64 (V : Int) 4294967295 = (x : Int)
  dv : DvIn U v a b
  x1 : x < 4294967296
  sum : Y = a * 4294967296 + b
  tot : (U * 4294967296 + v) * 4294967296 + x = (hi * 18446744073709551616 + lo) * 2 ^ s
theorem pack_of (hi lo y : Nat) (hy : hi < y) (hy2 : y < 18446744073709551616) (hlo : lo < 18446744073709551616) : ∃ s Y a b H U V v x, Pack hi lo y s Y a b H U V v x := by
  have hb := bitsOf_bitLen hy2
  obtain ⟨L, hL⟩ : ∃ L, L = Lib.bitLen y := ⟨_, rfl⟩
  rw [← hL] at hb
  have hL0 : L ≠ 0 := by
    intro e; have := hb.1; rw [e] at this; omega
  have hlow : 2 ^ (L - 1) ≤ y := by
    rcases hb.2 with h | h
    · exact absurd h hL0
    · exact h
  have hL64 : L - 1 < 64 := (Nat.pow_lt_pow_iff_right (a := 2) (by decide)).1 (show 2 ^ (L - 1) < 2 ^ 64 by omega)
  obtain ⟨s, hs⟩ : ∃ s, s = 64 - L := ⟨_, rfl⟩
  have hK0 : 0 < 2 ^ s := Nat.pow_pos (by decide)
  have k1 : 2 ^ (L - 1) * 2 ^ s = 9223372036854775808 := by rw [← Nat.pow_add, show L - 1 + s = 63 by omega]
  have k2 : 2 ^ L * 2 ^ s = 18446744073709551616 := by rw [← Nat.pow_add, show L + s = 64 by omega]
  have k3 : 2 ^ (64 - s) * 2 ^ s = 18446744073709551616 := by rw [← Nat.pow_add, show 64 - s + s = 64 by omega]
  have m1 : 2 ^ (L - 1) * 2 ^ s ≤ y * 2 ^ s := Nat.mul_le_mul_right _ hlow
  have m2 : y * 2 ^ s < 2 ^ L * 2 ^ s := Nat.mul_lt_mul_of_pos_right hb.1 hK0
  have m3 : (hi + 1) * 2 ^ s ≤ y * 2 ^ s := Nat.mul_le_mul_right _ hy
  rw [Nat.add_mul, Nat.one_mul] at m3
  have m4 : lo / 2 ^ (64 - s) < 2 ^ s := by
    apply Nat.div_lt_of_lt_mul; rw [k3]; exact hlo
  have m5 : lo * 2 ^ s / 18446744073709551616 = lo / 2 ^ (64 - s) := by rw [← k3, Nat.mul_div_mul_right _ _ hK0]
  have m6 := Nat.div_add_mod (lo * 2 ^ s) 18446744073709551616
  rw [m5] at m6
  have m7 := Nat.mod_lt (lo * 2 ^ s) (show 0 < 18446744073709551616 by decide)
  have m8 : hi * 2 ^ s + lo / 2 ^ (64 - s) = (hi * 2 ^ s) ||| (lo / 2 ^ (64 - s)) := by
    have := Nat.two_pow_add_eq_or_of_lt m4 hi
    rw [Nat.mul_comm (2 ^ s) hi] at this; exact this
  have m9 : lo / 2 ^ (64 - s) ≤ lo := Nat.div_le_self _ _
  have c1 : IntKind.u64.wrap ((y : Int) * 2 ^ s) = ((y * 2 ^ s : Nat) : Int) := by
    rw [show ((y : Int) * 2 ^ s) = ((y * 2 ^ s : Nat) : Int) by push_cast; rfl]
    exact wraps64 _ (by omega) (by omega)
  have c2 : IntKind.u64.wrap ((hi : Int) * 2 ^ s) = ((hi * 2 ^ s : Nat) : Int) := by
    rw [show ((hi : Int) * 2 ^ s) = ((hi * 2 ^ s : Nat) : Int) by push_cast; rfl]
    exact wraps64 _ (by omega) (by omega)
  have c3 : IntKind.u64.wrap ((lo : Int) * 2 ^ s) = ((lo * 2 ^ s % 18446744073709551616 : Nat) : Int) := by
    rw [show ((lo : Int) * 2 ^ s) = ((lo * 2 ^ s : Nat) : Int) by push_cast; rfl, IntKind.wrap_u64]
    generalize lo * 2 ^ s = z
    omega
  have c4 : ((lo : Int) / 2 ^ (64 - s)) = ((lo / 2 ^ (64 - s) : Nat) : Int) := by rw [Int.natCast_ediv]; simp
  have c5 : bits BinOp.or IntKind.u64 ((hi * 2 ^ s : Nat) : Int) ((lo : Int) / 2 ^ (64 - s)) = ((hi * 2 ^ s + lo / 2 ^ (64 - s) : Nat) : Int) := by
    rw [c4, u64or _ _ (by omega) (by omega), ← m8]
  have hsm : (hi * 18446744073709551616 + lo) * 2 ^ s = hi * 2 ^ s * 18446744073709551616 + lo * 2 ^ s := by rw [Nat.add_mul, Nat.mul_right_comm]
  have hmul := hs
  generalize hYe : y * 2 ^ s = Y at *
  generalize hHe : hi * 2 ^ s = H at *
  generalize hte : lo / 2 ^ (64 - s) = tt at *
  generalize hVe : lo * 2 ^ s = Z at *
  refine ⟨s, Y, Y / 4294967296, Y % 4294967296, H, H + tt, Z % 18446744073709551616, Z % 18446744073709551616 / 4294967296, Z % 18446744073709551616 % 4294967296, ?_⟩
  exact ⟨by omega, by omega, hYe.symm, by omega, by omega, c1, by omega, low32 _ (by omega), c2, c5, c3, by omega, by omega, low32 _ (by omega),
    ⟨by omega, by omega, by omega, by omega, by omega⟩, by omega, by omega, by rw [hsm]; omega⟩

theorem wrap_sub {U v m R : Nat} (h : m + R = U * 4294967296 + v) (hR : R < 18446744073709551616) : IntKind.u64.wrap (IntKind.u64.wrap (IntKind.u64.wrap ((U : Int) * 4294967296) + (v : Int)) - IntKind.u64.wrap (m : Int)) = (R : Int) := by
  simp only [IntKind.wrap_u64]
  omega
theorem div64_mid {hi lo y s Y a b H U V v x : Nat} (P : Pack hi lo y s Y a b H U V v x) : ∃ Q R m : Nat, Q = (U * 4294967296 + v) / (a * 4294967296 + b) ∧ m = Q * Y ∧ m + R = U * 4294967296 + v ∧ R < Y ∧ Q < 4294967296 ∧ DvIn R x a b ∧ R = (U * 4294967296 + v) % Y ∧
    IntKind.u64.wrap (IntKind.u64.wrap (IntKind.u64.wrap ((U : Int) * 4294967296) + (v : Int)) - IntKind.u64.wrap (m : Int)) = (R : Int) := by
  have hd := P.dv
  have hs := P.sum
  have hY1 := P.Y1
  have hY0 := P.Y0
  have e := Nat.div_add_mod (U * 4294967296 + v) Y
  have l := Nat.mod_lt (U * 4294967296 + v) (show 0 < Y by omega)
  rw [Nat.mul_comm] at e
  refine ⟨_, (U * 4294967296 + v) % Y, _, rfl, rfl, ?_, l, hd.lt, ⟨hd.a0, hd.a1, hd.b1, P.x1, by omega⟩, rfl, ?_⟩
  · rw [← hs]; exact e
  · rw [← hs]
    exact wrap_sub e (by omega)
theorem div64_fin {hi lo y s Y a b H U V v x Q R : Nat} (P : Pack hi lo y s Y a b H U V v x) (hQ : Q = (U * 4294967296 + v) / (a * 4294967296 + b)) (hR : R = (U * 4294967296 + v) % Y) (hI : DvIn R x a b) : ∃ q R2 m : Nat, q = (R * 4294967296 + x) / (a * 4294967296 + b) ∧ m = q * Y ∧ q < 4294967296 ∧
    IntKind.u64.wrap (IntKind.u64.wrap (IntKind.u64.wrap ((R : Int) * 4294967296) + (x : Int)) - IntKind.u64.wrap (m : Int)) = (R2 : Int) ∧ Q * 4294967296 + q = (hi * 18446744073709551616 + lo) / y ∧ R2 / 2 ^ s = (hi * 18446744073709551616 + lo) % y := by
  have hs := P.sum
  have hY1 := P.Y1
  have hY0 := P.Y0
  have e := Nat.div_add_mod (R * 4294967296 + x) Y
  have l := Nat.mod_lt (R * 4294967296 + x) (show 0 < Y by omega)
  rw [Nat.mul_comm] at e
  have t1 := dv_two (n := U * 4294967296 + v) (w := x) (y := Y) (by omega)
  rw [P.tot] at t1
  have t2 := dv_shift (n := hi * 18446744073709551616 + lo) (y := y) (k := 2 ^ s) (Nat.pow_pos (by decide))
  rw [← P.eY] at t2
  rw [← hs] at hQ
  rw [← hQ, ← hR, t2.1] at t1
  refine ⟨_, (R * 4294967296 + x) % Y, _, rfl, rfl, hI.lt, ?_, ?_, ?_⟩
  · rw [← hs]
    exact wrap_sub e (by omega)
  · rw [← hs]; exact t1.1
  · rw [t1.2]; exact t2.2

set_option maxHeartbeats 3200000 in
set_option maxRecDepth 100000 in
theorem div64_big (hi lo y : Nat) (h0 : 0 < hi) (hy : hi < y) (hy2 : y < 18446744073709551616) (hlo : lo < 18446744073709551616) (w : World) :
    Calls Tryz.prog 145 #[.int .u64 hi, .int .u64 lo, .int .u64 y] w fun e w' => e = .returned (.tuple #[.int .u64 (((hi * 18446744073709551616 + lo) / y : Nat) : Int), .int .u64 (((hi * 18446744073709551616 + lo) % y : Nat) : Int)]) ∧ w = w' := by
  have hlz := fun wx => Tryz.bits_LeadingZeros64 (y : Int) wx (by omega) (by omega)
  rw [Int.toNat_natCast] at hlz
  obtain ⟨s, Y, a, b, H, U, V, v, x, P⟩ := pack_of hi lo y hy hy2 hlo
  rw [← P.ybits] at hlz
  have HLZ := Lib.hid hlz
  have HP := Lib.hid P
  obtain ⟨hyb, hs63, heY, hY0, hY1, eYi, ea, eb, eH, eU, eV, hV1, ev, ex, hdv, hx1, hsum, htot⟩ := P
  have HDV := Lib.hid hdv
  obtain ⟨ha0, ha1, hb1, hv1, hU1⟩ := hdv
  obtain ⟨q, hq⟩ : ∃ q, q = U / a := ⟨_, rfl⟩
  have hst := Dv.start HDV.out
  rw [← hq] at hst
  obtain ⟨z, hz⟩ : ∃ z, z = q * a := ⟨_, rfl⟩
  rw [← hz] at hst
  obtain ⟨r, hr⟩ : ∃ r, r = U - z := ⟨_, rfl⟩
  rw [← hr] at hst
  have hzU : z + r = U := by have := hst.eq; rw [hz]; exact this
  have hra : r < a := by
    have h1 := Nat.div_add_mod U a
    have h2 := Nat.mod_lt U (show 0 < a by omega)
    rw [← hq, Nat.mul_comm, ← hz] at h1; omega
  have htd : (U : Int) / (a : Int) = (q : Int) := by rw [hq]; simp
  have hqa : (q : Int) * (a : Int) = (z : Int) := by rw [hz]; simp
  have hqs : q ≤ 4294967297 := hst.le
  have hanz : ((a : Int) == 0) = false := by rw [beq_eq_false_iff_ne]; omega
  have HST := Lib.hid hst
  clear hlz hq hz hr hst hyb heY htot hsum
  go_enter Tryz.func145, Tryz.ntmps145
  go_wp2_with (go_at_call 161; refine (HLZ.out _).mono ?_; rintro e w' ⟨rfl, hw⟩; obtain rfl := hw.symm)
  clear eYi eH eU eV
  go_loopw [15, 16] (fun qv rv wr => ∃ q r : Nat, qv = .int .u64 q ∧ rv = .int .u64 r ∧ q ≤ 4294967297 ∧ r < 4294967296 ∧ Hid (Dv U v a b q r) ∧ wr = w) (fun qv _ _ => (intOf qv).toNat)
  case atStart => exact ⟨q, r, rfl, by congr 1; omega, hqs, by omega, HST, rfl⟩
  case round =>
    obtain ⟨q, r, rfl, rfl, hq, hr, HD, hw⟩ := hrel
    obtain rfl := hw.symm
    clear hw htd hqa hzU hra hqs ea eb ev ex hY0 hY1 hV1 hU1 h0 hy hy2 hlo
    obtain ⟨p, hp⟩ : ∃ p, p = q * b := ⟨_, rfl⟩
    have hpi : (q : Int) * (b : Int) = (p : Int) := by rw [hp]; simp
    have hpb : p ≤ 18446744073709551615 := by rw [hp]; exact Nat.le_trans (Nat.mul_le_mul hq (show b ≤ 4294967295 by omega)) (by decide)
    obtain ⟨g, hg⟩ : ∃ g, g = 4294967296 * r := ⟨_, rfl⟩
    have hgi : (4294967296 : Int) * (r : Int) = (g : Int) := by omega
    have hgb : g ≤ 18446744069414584320 := by omega
    by_cases hc : 4294967296 ≤ q ∨ g + v < p
    · have hst := Dv.step HDV.out HD.out (by rw [← hp, ← hg]; exact hc)
      obtain ⟨hq1, hst2⟩ := hst
      obtain ⟨q', hq'⟩ : ∃ q', q' = q - 1 := ⟨_, rfl⟩
      obtain ⟨r', hr'⟩ : ∃ r', r' = r + a := ⟨_, rfl⟩
      rw [← hq', ← hr'] at hst2
      have HD2 := Lib.hid hst2
      have hqi : (q : Int) - 1 = (q' : Int) := by omega
      have hri : (r : Int) + (a : Int) = (r' : Int) := by omega
      have hqb : q' ≤ 4294967296 := by omega
      have hrb : r' < 8589934592 := by omega
      have HQL := Lib.hid (show q' < q by omega)
      have HC : Hid (decide ((q : Int) ≥ 4294967296) = true ∨ (decide ((q : Int) ≥ 4294967296) = false ∧ decide ((p : Int) > (g : Int) + (v : Int)) = true)) := by
        by_cases h : 4294967296 ≤ q
        · exact .inl (decide_eq_true (by omega))
        · exact .inr ⟨decide_eq_false (by omega), decide_eq_true (by omega)⟩
      clear hst2 hp hg hc HD hq' hr' hq1
      by_cases hr2 : 4294967296 ≤ r'
      · have hrd : decide ((r' : Int) ≥ 4294967296) = true := decide_eq_true (by omega)
        have HQ := Lib.hid (Dv.exit2 HDV.out HD2.out hqb hr2)
        clear hr2
        rcases HC.out with hc1 | ⟨hc1, hc2⟩
        all_goals
          obtain ⟨Q0, R, m, e1, e2, e3, hRY, hQ32, hI, e4, hRw⟩ := div64_mid HP.out
          obtain rfl : Q0 = q' := e1.trans HQ.out.symm
          have hRb : R < 18446744073709551616 := by have := HP.out.Y1; omega
          have hmi : (Q0 : Int) * (Y : Int) = (m : Int) := by rw [e2]; simp
          have HE4 := Lib.hid e4
          have HDV2 := Lib.hid hI
          obtain ⟨q2, hq2⟩ : ∃ q2, q2 = R / a := ⟨_, rfl⟩
          have hst3 := Dv.start hI
          rw [← hq2] at hst3
          obtain ⟨z2, hz2⟩ : ∃ z2, z2 = q2 * a := ⟨_, rfl⟩
          rw [← hz2] at hst3
          obtain ⟨r2, hr2⟩ : ∃ r2, r2 = R - z2 := ⟨_, rfl⟩
          rw [← hr2] at hst3
          have hzR2 : z2 + r2 = R := by have := hst3.eq; rw [hz2]; exact this
          have hra2 : r2 < a := by
            have h1 := Nat.div_add_mod R a
            have h2 := Nat.mod_lt R (show 0 < a by omega)
            rw [← hq2, Nat.mul_comm, ← hz2] at h1; omega
          have htd2 : (R : Int) / (a : Int) = (q2 : Int) := by rw [hq2]; simp
          have hqa2 : (q2 : Int) * (a : Int) = (z2 : Int) := by rw [hz2]; simp
          have hqs2 : q2 ≤ 4294967297 := hst3.le
          have HST2 := Lib.hid hst3
          clear e1 e2 e3 e4 hRY hI hq2 hz2 hr2 hst3
          go_wp2_with fail
          go_loopw [16, 18] (fun rv qv wr => ∃ q r : Nat, qv = .int .u64 q ∧ rv = .int .u64 r ∧ q ≤ 4294967297 ∧ r < 4294967296 ∧ Hid (Dv R x a b q r) ∧ wr = w) (fun _ qv _ => (intOf qv).toNat)
          case atStart => exact ⟨q2, r2, rfl, by congr 1; omega, hqs2, by omega, HST2, rfl⟩
          case round =>
            obtain ⟨q, r, rfl, rfl, hq, hr, HD, hw⟩ := hrel
            obtain rfl := hw.symm
            clear hw htd2 hqa2 hzR2 hra2 hqs2 hmi hRw
            obtain ⟨p, hp⟩ : ∃ p, p = q * b := ⟨_, rfl⟩
            have hpi : (q : Int) * (b : Int) = (p : Int) := by rw [hp]; simp
            have hpb : p ≤ 18446744073709551615 := by rw [hp]; exact Nat.le_trans (Nat.mul_le_mul hq (show b ≤ 4294967295 by omega)) (by decide)
            obtain ⟨g, hg⟩ : ∃ g, g = 4294967296 * r := ⟨_, rfl⟩
            have hgi : (4294967296 : Int) * (r : Int) = (g : Int) := by omega
            have hgb : g ≤ 18446744069414584320 := by omega
            by_cases hc : 4294967296 ≤ q ∨ g + x < p
            · have hst := Dv.step HDV2.out HD.out (by rw [← hp, ← hg]; exact hc)
              obtain ⟨hq1, hst2⟩ := hst
              obtain ⟨q', hq'⟩ : ∃ q', q' = q - 1 := ⟨_, rfl⟩
              obtain ⟨r', hr'⟩ : ∃ r', r' = r + a := ⟨_, rfl⟩
              rw [← hq', ← hr'] at hst2
              have HD2 := Lib.hid hst2
              have hqi : (q : Int) - 1 = (q' : Int) := by omega
              have hri : (r : Int) + (a : Int) = (r' : Int) := by omega
              have hqb : q' ≤ 4294967296 := by omega
              have hrb : r' < 8589934592 := by omega
              have HQL := Lib.hid (show q' < q by omega)
              have HC : Hid (decide ((q : Int) ≥ 4294967296) = true ∨ (decide ((q : Int) ≥ 4294967296) = false ∧ decide ((p : Int) > (g : Int) + (x : Int)) = true)) := by
                by_cases h : 4294967296 ≤ q
                · exact .inl (decide_eq_true (by omega))
                · exact .inr ⟨decide_eq_false (by omega), decide_eq_true (by omega)⟩
              clear hst2 hp hg hc HD hq' hr' hq1
              by_cases hr2 : 4294967296 ≤ r'
              · have hrd : decide ((r' : Int) ≥ 4294967296) = true := decide_eq_true (by omega)
                have HQ2 := Lib.hid (Dv.exit2 HDV2.out HD2.out hqb hr2)
                clear hr2
                rcases HC.out with hc1 | ⟨hc1, hc2⟩
                all_goals
                  obtain ⟨q9, R2, m2, f1, f2, hq32, hRw2, fq, fr⟩ := div64_fin HP.out HQ.out HE4.out HDV2.out
                  obtain rfl : q9 = q' := f1.trans HQ2.out.symm
                  have hmi2 : (q9 : Int) * (Y : Int) = (m2 : Int) := by rw [f2]; simp
                  obtain ⟨k1, hk1⟩ : ∃ k1, k1 = Q0 * 4294967296 := ⟨_, rfl⟩
                  have hk1i : (Q0 : Int) * 4294967296 = (k1 : Int) := by omega
                  have hk1b : k1 ≤ 18446744069414584320 := by omega
                  rw [← hk1] at fq
                  have HFQ := Lib.hid fq
                  have HFR := Lib.hid fr
                  clear f1 f2 hk1 fq fr
                  go_wp2_with fail
                  go_ret2
                  exact ⟨ret_two (a := .int .u64 ((k1 : Int) + (q9 : Int))) (c := .int .u64 ((R2 : Int) / 2 ^ s)) (by rw [← HFQ.out]; simp) (by rw [← HFR.out]; simp), rfl⟩
              · have hrd : decide ((r' : Int) ≥ 4294967296) = false := decide_eq_false (by omega)
                have hrb2 : r' < 4294967296 := by omega
                clear hr2
                rcases HC.out with hc1 | ⟨hc1, hc2⟩
                all_goals
                  go_wp2_with fail
                  refine ⟨⟨q', r', rfl, rfl, by omega, hrb2, HD2, trivial⟩, ?_⟩
                  have := HQL.out
                  simp [intOf] <;> omega
            · have hc1 : decide ((q : Int) ≥ 4294967296) = false := decide_eq_false (by omega)
              have hc2 : decide ((p : Int) > (g : Int) + (x : Int)) = false := decide_eq_false (by omega)
              have HQ2 := Lib.hid (Dv.exit HDV2.out HD.out (by rw [← hp, ← hg]; omega))
              clear hc hp hg HD
              obtain ⟨q9, R2, m2, f1, f2, hq32, hRw2, fq, fr⟩ := div64_fin HP.out HQ.out HE4.out HDV2.out
              obtain rfl : q9 = q := f1.trans HQ2.out.symm
              have hmi2 : (q9 : Int) * (Y : Int) = (m2 : Int) := by rw [f2]; simp
              obtain ⟨k1, hk1⟩ : ∃ k1, k1 = Q0 * 4294967296 := ⟨_, rfl⟩
              have hk1i : (Q0 : Int) * 4294967296 = (k1 : Int) := by omega
              have hk1b : k1 ≤ 18446744069414584320 := by omega
              rw [← hk1] at fq
              have HFQ := Lib.hid fq
              have HFR := Lib.hid fr
              clear f1 f2 hk1 fq fr
              go_wp2_with fail
              go_ret2
              exact ⟨ret_two (a := .int .u64 ((k1 : Int) + (q9 : Int))) (c := .int .u64 ((R2 : Int) / 2 ^ s)) (by rw [← HFQ.out]; simp) (by rw [← HFR.out]; simp), rfl⟩
      · have hrd : decide ((r' : Int) ≥ 4294967296) = false := decide_eq_false (by omega)
        have hrb2 : r' < 4294967296 := by omega
        clear hr2
        rcases HC.out with hc1 | ⟨hc1, hc2⟩
        all_goals
          go_wp2_with fail
          refine ⟨⟨q', r', rfl, rfl, by omega, hrb2, HD2, trivial⟩, ?_⟩
          have := HQL.out
          simp [intOf] <;> omega
    · have hc1 : decide ((q : Int) ≥ 4294967296) = false := decide_eq_false (by omega)
      have hc2 : decide ((p : Int) > (g : Int) + (v : Int)) = false := decide_eq_false (by omega)
      have HQ := Lib.hid (Dv.exit HDV.out HD.out (by rw [← hp, ← hg]; omega))
      clear hc hp hg HD
      obtain ⟨Q0, R, m, e1, e2, e3, hRY, hQ32, hI, e4, hRw⟩ := div64_mid HP.out
      obtain rfl : Q0 = q := e1.trans HQ.out.symm
      have hRb : R < 18446744073709551616 := by have := HP.out.Y1; omega
      have hmi : (Q0 : Int) * (Y : Int) = (m : Int) := by rw [e2]; simp
      have HE4 := Lib.hid e4
      have HDV2 := Lib.hid hI
      obtain ⟨q2, hq2⟩ : ∃ q2, q2 = R / a := ⟨_, rfl⟩
      have hst3 := Dv.start hI
      rw [← hq2] at hst3
      obtain ⟨z2, hz2⟩ : ∃ z2, z2 = q2 * a := ⟨_, rfl⟩
      rw [← hz2] at hst3
      obtain ⟨r2, hr2⟩ : ∃ r2, r2 = R - z2 := ⟨_, rfl⟩
      rw [← hr2] at hst3
      have hzR2 : z2 + r2 = R := by have := hst3.eq; rw [hz2]; exact this
      have hra2 : r2 < a := by
        have h1 := Nat.div_add_mod R a
        have h2 := Nat.mod_lt R (show 0 < a by omega)
        rw [← hq2, Nat.mul_comm, ← hz2] at h1; omega
      have htd2 : (R : Int) / (a : Int) = (q2 : Int) := by rw [hq2]; simp
      have hqa2 : (q2 : Int) * (a : Int) = (z2 : Int) := by rw [hz2]; simp
      have hqs2 : q2 ≤ 4294967297 := hst3.le
      have HST2 := Lib.hid hst3
      clear e1 e2 e3 e4 hRY hI hq2 hz2 hr2 hst3
      go_wp2_with fail
      go_loopw [16, 18] (fun rv qv wr => ∃ q r : Nat, qv = .int .u64 q ∧ rv = .int .u64 r ∧ q ≤ 4294967297 ∧ r < 4294967296 ∧ Hid (Dv R x a b q r) ∧ wr = w) (fun _ qv _ => (intOf qv).toNat)
      case atStart => exact ⟨q2, r2, rfl, by congr 1; omega, hqs2, by omega, HST2, rfl⟩
      case round =>
        obtain ⟨q, r, rfl, rfl, hq, hr, HD, hw⟩ := hrel
        obtain rfl := hw.symm
        clear hw htd2 hqa2 hzR2 hra2 hqs2 hmi hRw
        obtain ⟨p, hp⟩ : ∃ p, p = q * b := ⟨_, rfl⟩
        have hpi : (q : Int) * (b : Int) = (p : Int) := by rw [hp]; simp
        have hpb : p ≤ 18446744073709551615 := by rw [hp]; exact Nat.le_trans (Nat.mul_le_mul hq (show b ≤ 4294967295 by omega)) (by decide)
        obtain ⟨g, hg⟩ : ∃ g, g = 4294967296 * r := ⟨_, rfl⟩
        have hgi : (4294967296 : Int) * (r : Int) = (g : Int) := by omega
        have hgb : g ≤ 18446744069414584320 := by omega
        by_cases hc : 4294967296 ≤ q ∨ g + x < p
        · have hst := Dv.step HDV2.out HD.out (by rw [← hp, ← hg]; exact hc)
          obtain ⟨hq1, hst2⟩ := hst
          obtain ⟨q', hq'⟩ : ∃ q', q' = q - 1 := ⟨_, rfl⟩
          obtain ⟨r', hr'⟩ : ∃ r', r' = r + a := ⟨_, rfl⟩
          rw [← hq', ← hr'] at hst2
          have HD2 := Lib.hid hst2
          have hqi : (q : Int) - 1 = (q' : Int) := by omega
          have hri : (r : Int) + (a : Int) = (r' : Int) := by omega
          have hqb : q' ≤ 4294967296 := by omega
          have hrb : r' < 8589934592 := by omega
          have HQL := Lib.hid (show q' < q by omega)
          have HC : Hid (decide ((q : Int) ≥ 4294967296) = true ∨ (decide ((q : Int) ≥ 4294967296) = false ∧ decide ((p : Int) > (g : Int) + (x : Int)) = true)) := by
            by_cases h : 4294967296 ≤ q
            · exact .inl (decide_eq_true (by omega))
            · exact .inr ⟨decide_eq_false (by omega), decide_eq_true (by omega)⟩
          clear hst2 hp hg hc HD hq' hr' hq1
          by_cases hr2 : 4294967296 ≤ r'
          · have hrd : decide ((r' : Int) ≥ 4294967296) = true := decide_eq_true (by omega)
            have HQ2 := Lib.hid (Dv.exit2 HDV2.out HD2.out hqb hr2)
            clear hr2
            rcases HC.out with hc1 | ⟨hc1, hc2⟩
            all_goals
              obtain ⟨q9, R2, m2, f1, f2, hq32, hRw2, fq, fr⟩ := div64_fin HP.out HQ.out HE4.out HDV2.out
              obtain rfl : q9 = q' := f1.trans HQ2.out.symm
              have hmi2 : (q9 : Int) * (Y : Int) = (m2 : Int) := by rw [f2]; simp
              obtain ⟨k1, hk1⟩ : ∃ k1, k1 = Q0 * 4294967296 := ⟨_, rfl⟩
              have hk1i : (Q0 : Int) * 4294967296 = (k1 : Int) := by omega
              have hk1b : k1 ≤ 18446744069414584320 := by omega
              rw [← hk1] at fq
              have HFQ := Lib.hid fq
              have HFR := Lib.hid fr
              clear f1 f2 hk1 fq fr
              go_wp2_with fail
              go_ret2
              exact ⟨ret_two (a := .int .u64 ((k1 : Int) + (q9 : Int))) (c := .int .u64 ((R2 : Int) / 2 ^ s)) (by rw [← HFQ.out]; simp) (by rw [← HFR.out]; simp), rfl⟩
          · have hrd : decide ((r' : Int) ≥ 4294967296) = false := decide_eq_false (by omega)
            have hrb2 : r' < 4294967296 := by omega
            clear hr2
            rcases HC.out with hc1 | ⟨hc1, hc2⟩
            all_goals
              go_wp2_with fail
              refine ⟨⟨q', r', rfl, rfl, by omega, hrb2, HD2, trivial⟩, ?_⟩
              have := HQL.out
              simp [intOf] <;> omega
        · have hc1 : decide ((q : Int) ≥ 4294967296) = false := decide_eq_false (by omega)
          have hc2 : decide ((p : Int) > (g : Int) + (x : Int)) = false := decide_eq_false (by omega)
          have HQ2 := Lib.hid (Dv.exit HDV2.out HD.out (by rw [← hp, ← hg]; omega))
          clear hc hp hg HD
          obtain ⟨q9, R2, m2, f1, f2, hq32, hRw2, fq, fr⟩ := div64_fin HP.out HQ.out HE4.out HDV2.out
          obtain rfl : q9 = q := f1.trans HQ2.out.symm
          have hmi2 : (q9 : Int) * (Y : Int) = (m2 : Int) := by rw [f2]; simp
          obtain ⟨k1, hk1⟩ : ∃ k1, k1 = Q0 * 4294967296 := ⟨_, rfl⟩
          have hk1i : (Q0 : Int) * 4294967296 = (k1 : Int) := by omega
          have hk1b : k1 ≤ 18446744069414584320 := by omega
          rw [← hk1] at fq
          have HFQ := Lib.hid fq
          have HFR := Lib.hid fr
          clear f1 f2 hk1 fq fr
          go_wp2_with fail
          go_ret2
          exact ⟨ret_two (a := .int .u64 ((k1 : Int) + (q9 : Int))) (c := .int .u64 ((R2 : Int) / 2 ^ s)) (by rw [← HFQ.out]; simp) (by rw [← HFR.out]; simp), rfl⟩
end Go.Proofs.YtjebddpapbopnaaGreatDoor

namespace Go.Proofs.YtjebddpapbopnaaGreatDoor
open Go.RowKit

theorem div64_any (hi lo y : Nat) (hy : hi < y) (hy2 : y < 18446744073709551616) (hlo : lo < 18446744073709551616) (w : World) :
    Calls Tryz.prog 145 #[.int .u64 hi, .int .u64 lo, .int .u64 y] w fun e w' => e = .returned (.tuple #[.int .u64 (((hi * 18446744073709551616 + lo) / y : Nat) : Int), .int .u64 (((hi * 18446744073709551616 + lo) % y : Nat) : Int)]) ∧ Below w.heap.size w w' := by
  by_cases h : hi = 0
  · subst h
    rw [Nat.zero_mul, Nat.zero_add]
    exact div64_small lo y hy hlo w
  · refine (div64_big hi lo y (by omega) hy hy2 hlo w).mono ?_
    rintro e w' ⟨rfl, rfl⟩
    exact ⟨rfl, Below.refl _ _⟩

set_option maxHeartbeats 800000 in
set_option maxRecDepth 100000 in
theorem takeShort_any (rest piece n : Nat) (hr : rest < n) (hp : piece < 1000000000) (hn : n < 18446744073709551616) (w : World) :
    Calls Tryz.prog 124 #[.int .u64 rest, .int .u64 piece, .int .u64 n] w fun e w' => e = .returned (.tuple #[.int .u64 (((rest * 1000000000 + piece) / n : Nat) : Int), .int .u64 (((rest * 1000000000 + piece) % n : Nat) : Int)]) ∧ Below w.heap.size w w' := by
  have hm := Tryz.bits_Mul64 rest 1000000000 (by omega) (by omega) w
  obtain ⟨V, hV⟩ : ∃ V : Nat, V = rest * 1000000000 := ⟨_, rfl⟩
  rw [← hV] at hm ⊢
  obtain ⟨hi, hhi⟩ : ∃ hi : Nat, hi = V / 18446744073709551616 := ⟨_, rfl⟩
  obtain ⟨lo, hlo⟩ : ∃ lo : Nat, lo = V % 18446744073709551616 := ⟨_, rfl⟩
  rw [← hhi, ← hlo] at hm
  obtain ⟨c, hc⟩ : ∃ c : Nat, c = (lo + piece) / 18446744073709551616 := ⟨_, rfl⟩
  obtain ⟨l2, hl2⟩ : ∃ l2 : Nat, l2 = (lo + piece) % 18446744073709551616 := ⟨_, rfl⟩
  obtain ⟨h2, hh2⟩ : ∃ h2 : Nat, h2 = hi + c := ⟨_, rfl⟩
  have ha' : ∀ wx, (callFunc 94 #[.int .u64 (lo : Int), .int .u64 (piece : Int), .int .u64 0]).run Tryz.prog wx = .ok (.value (.tuple #[.int .u64 (l2 : Int), .int .u64 (c : Int)])) wx := fun wx => by
    have h := Tryz.bits_Add64 lo piece 0 (by omega) wx
    rw [Nat.add_zero, ← hc, ← hl2] at h
    exact h
  have hsi : (hi : Int) + (c : Int) = (h2 : Int) := by omega
  have hlt : h2 < n := by omega
  have hd := fun wx => div64_any h2 l2 n hlt hn (by omega) wx
  rw [show h2 * 18446744073709551616 + l2 = V + piece by omega] at hd
  have hw2 : IntKind.u64.wrap (h2 : Int) = (h2 : Int) := by rw [IntKind.wrap_u64]; omega
  have HM := Lib.hid hm
  have HD := Lib.hid hd
  clear hm hd hV hhi hlo hc hl2 hh2
  go_enter Tryz.func124, Tryz.ntmps124
  go_wp2_with (first
    | (go_at_call 100; refine HM.out.mono ?_; rintro e w' ⟨rfl, rfl⟩)
    | (go_at_call 145; refine (HD.out _).mono ?_; rintro e w' ⟨rfl, hb⟩))
  go_ret2
  exact ⟨rfl, hb⟩

set_option maxHeartbeats 3200000 in
set_option maxRecDepth 100000 in
theorem divideShort_any (B g cap : Nat) (p : List Nat) (n : Nat) (w : World) (h : Row w B g cap p) (h9 : lt9 p) (hn0 : 0 < n) (hn1 : n < 18446744073709551616) (hl : p.length ≤ 200000) :
    Calls Tryz.prog 122 #[.slice (some ⟨g, 0, none⟩) p.length cap, .int .u64 n] w fun e w' => ∃ (g' cap' : Nat) (q : List Nat), e = .returned (.tuple #[.slice (some ⟨g', 0, none⟩) q.length cap', .int .u64 ((pv p % n : Nat) : Int)]) ∧ Pcs q (pv p / n) ∧ Row w' w.heap.size g' cap' q ∧ Below w.heap.size w w' := by
  have hlc := h.len_cap
  unfold maxLen at hlc
  obtain ⟨i0, hi, hz0, hz1, hz2⟩ := info_parts info64
  have HH := Lib.hid h
  have H9 := Lib.hid h9
  clear h h9
  go_enter Tryz.func122, Tryz.ntmps122
  go_wp2_with (at_make; refine wpList_make_full _ rfl _ _ 103 rfl w.heap.size 61 i0 (.int .u64 0) 1 Tryz.underlying103 hi hz0 hz1 .i64 .i64 _ _ p.length rfl rfl (by omega) (by omega) (by rw [hz2]; omega) (by unfold maxLen; omega) (Nat.le_refl _) ?_; intro w0 hown0 hgrow0)
  have hbel0 : Below w.heap.size w w0 := (Below.refl _ _).grown hgrow0 (Nat.le_refl _) (by intro k hk; cases hk)
  have hrow0 := Row.made hown0
  clear hown0 hgrow0
  go_wp2_with fail
  go_loopw [5, 6] (fun rv iv wr => ∃ (k r : Nat) (E : Int), iv = .int .i64 E ∧ k ≤ p.length ∧ -1 ≤ E ∧ E < p.length ∧ rv = .int .u64 r ∧ r < n ∧ Hid (E = (k : Int) - 1 ∧ r = (divS n (p.drop k)).2) ∧ Row wr w.heap.size w.heap.size p.length (z0 k (divS n (p.drop k)).1) ∧ Below w.heap.size w wr) (fun _ iv _ => (intOf iv + 1).toNat)
  case atStart =>
    refine ⟨p.length, 0, (p.length : Int) - 1, rfl, Nat.le_refl _, by omega, by omega, rfl, hn0, ⟨rfl, ?_⟩, ?_, hbel0⟩
    · rw [List.drop_length]; rfl
    · rw [List.drop_length]; exact hrow0
  case round =>
    obtain ⟨k, r, E, rfl, hk, hE1, hE2, rfl, hr, HI, hrow, hbel⟩ := hrel
    have hkE := HI.1
    by_cases hE : 0 ≤ E
    · obtain ⟨j, rfl⟩ : ∃ j : Nat, E = j := ⟨E.toNat, by omega⟩
      obtain rfl : k = j + 1 := by omega
      have hj : j < p.length := by omega
      have hcell := (HH.out.below hbel).cell j hj
      have hx9 := lt9_at H9.out j hj
      have hds := divS_drop n p j hj
      obtain ⟨x, hx⟩ : ∃ x : Nat, x = p[j] := ⟨_, rfl⟩
      rw [← hx] at hcell hx9 hds
      have hts := takeShort_any r x n hr hx9 hn1 wr
      rw [← HI.2] at hds
      obtain ⟨d, hd⟩ : ∃ d : Nat, d = (r * 1000000000 + x) / n := ⟨_, rfl⟩
      obtain ⟨m, hm⟩ : ∃ m : Nat, m = (r * 1000000000 + x) % n := ⟨_, rfl⟩
      have hmn : m < n := by rw [hm]; exact Nat.mod_lt _ hn0
      rw [← hd, ← hm] at hts hds
      have HD := Lib.hid hds
      have HT := Lib.hid hts
      have HR2 := Lib.hid hrow
      have HB2 := Lib.hid hbel
      have hlen : j < (z0 (j + 1) (divS n (p.drop (j + 1))).1).length := by rw [z0_len]; omega
      obtain ⟨c0, hc0⟩ : ∃ c0 : Int, ∀ w1, Below wr.heap.size wr w1 → w1.cell? ⟨w.heap.size, j, none⟩ = some (.int .u64 c0) ∧ w1.frozen? ⟨w.heap.size, j, none⟩ = false := ⟨_, fun w1 hb => ⟨(hrow.below hb).cell j hlen, (hrow.below hb).free j⟩⟩
      have HC := Lib.hid hc0
      clear hds hts hd hm hx hrow hbel hlen hc0 hkE
      go_wp2_with fail
      refine HT.out.mono ?_
      rintro e w1 ⟨rfl, hb1⟩
      have hcz := (HC.out w1 hb1).1
      have hfz := (HC.out w1 hb1).2
      have HB1 := Lib.hid hb1
      clear hb1
      go_wp2_with fail
      all_goals go_roundw
      case rel =>
        have h1 := (HR2.out.below HB1.out).set j d
        rw [z0_set] at h1
        refine ⟨j, m, (j : Int) - 1, rfl, by omega, by omega, by omega, rfl, hmn, ⟨rfl, by rw [HD.out]⟩, by rw [HD.out]; exact h1, (HB2.out.trans (HB1.out.mono HB2.out.size)).setCell (Nat.le_refl _) _⟩
      case measure => simp [intOf] <;> omega
    · obtain rfl : k = 0 := by omega
      have hdr := HI.2
      rw [List.drop_zero] at hdr
      have hrow2 : Row wr w.heap.size w.heap.size p.length (divS n p).1 := by have := hrow; rw [List.drop_zero] at this; exact this
      have hlen := divS_len n p
      have hprops := divS_props n hn0 p
      have hq : pv (divS n p).1 = pv p / n ∧ r = pv p % n := by
        rw [hdr, ← hprops.1]
        constructor
        · rw [Nat.mul_comm, Nat.mul_add_div hn0, Nat.div_eq_of_lt hprops.2, Nat.add_zero]
        · rw [Nat.mul_comm, Nat.mul_add_mod, Nat.mod_eq_of_lt hprops.2]
      have ht := trim_any w.heap.size w.heap.size p.length (divS n p).1 wr hrow2
      rw [hlen] at ht
      have HT := Lib.hid ht
      have HQ := Lib.hid hq
      have HR2 := Lib.hid hrow2
      have HB2 := Lib.hid hbel
      have HP := Lib.hid hprops
      clear ht hq hrow2 hbel hrow hdr hprops HI
      go_wp2_with fail
      refine HT.out.mono ?_
      rintro e w1 ⟨rfl, rfl⟩
      go_wp2_with fail
      go_ret2
      refine ⟨w.heap.size, p.length, trimP (divS n p).1, ret_two (c := .int .u64 (r : Int)) rfl (by rw [HQ.out.2]), ?_, ?_, HB2.out⟩
      · rw [← HQ.out.1]; exact Pcs.of_trim (divS_lt9 n hn0 p H9.out)
      · have := HR2.out.take (trimP (divS n p).1).length (trimP_props _).2.2.2.1
        rw [← (trimP_props (divS n p).1).2.2.2.2] at this; exact this
end Go.Proofs.YtjebddpapbopnaaGreatDoor

namespace Go.Proofs.YtjebddpapbopnaaGreatDoor
open Go.RowKit

theorem gcd_step (a b : Nat) : Nat.gcd b (a % b) = Nat.gcd a b := by
  rw [Nat.gcd_comm b, ← Nat.gcd_rec, Nat.gcd_comm]

set_option maxHeartbeats 800000 in
set_option maxRecDepth 100000 in
theorem smallGcd_any (a b : Nat) (w : World) (ha : a < 18446744073709551616) (hb : b < 18446744073709551616) :
    Calls Tryz.prog 105 #[.int .u64 a, .int .u64 b] w fun e w' => e = .returned (.int .u64 ((Nat.gcd a b : Nat) : Int)) ∧ Below w.heap.size w w' := by
  obtain ⟨d, hd⟩ : ∃ d, d = Nat.gcd a b := ⟨_, rfl⟩
  rw [← hd]
  have HD := Lib.hid hd
  clear hd
  go_enter Tryz.func105, Tryz.ntmps105
  go_wp2_with fail
  go_loopw [0, 1] (fun av bv wr => ∃ x y : Nat, av = .int .u64 x ∧ bv = .int .u64 y ∧ x < 18446744073709551616 ∧ y < 18446744073709551616 ∧ Hid (d = Nat.gcd x y) ∧ Below w.heap.size w wr) (fun _ bv _ => (intOf bv).toNat)
  case atStart => exact ⟨a, b, rfl, rfl, ha, hb, HD, Below.refl _ _⟩
  case round =>
    obtain ⟨x, y, rfl, rfl, hx, hy, HI, hbel⟩ := hrel
    have HBL := Lib.hid hbel
    clear hbel HD ha hb
    by_cases hy0 : y = 0
    · subst hy0
      have hdx : d = x := by rw [HI.out, Nat.gcd_zero_right]
      subst hdx
      go_wp2_with fail
      go_ret
      exact ⟨rfl, HBL.out⟩
    · have hyz : ((y : Int) == 0) = false := by rw [beq_eq_false_iff_ne]; omega
      obtain ⟨r, hr⟩ : ∃ r, r = x % y := ⟨_, rfl⟩
      have hri : (x : Int).tmod (y : Int) = (r : Int) := by rw [Int.tmod_eq_emod_of_nonneg (by omega), hr]; simp
      have hry : r < y := by rw [hr]; exact Nat.mod_lt _ (by omega)
      have HI2 := Lib.hid (show d = Nat.gcd y r by rw [hr, gcd_step]; exact HI.out)
      clear hr hy0
      go_wp2_with fail
      go_quiet (fail)
      go_wp2_with fail
      refine ⟨⟨y, r, rfl, rfl, hy, by omega, HI2, below_drewN HBL.out _⟩, ?_⟩
      simp [intOf] <;> omega

theorem str_zero_beq (b : Nat) : ((str b).toList == [48]) = decide (b = 0) := is0 b

end Go.Proofs.YtjebddpapbopnaaGreatDoor

namespace Go.Proofs.YtjebddpapbopnaaGreatDoor
open Go.RowKit

theorem grown_refl (w : World) (r : Option Nat) : w.grownBy w r := ⟨rfl, rfl, rfl, Nat.le_refl _, fun _ _ _ => rfl⟩
theorem grown_trans {a b c : World} {r : Option Nat} (h : a.grownBy b r) (k : b.grownBy c r) : a.grownBy c r :=
  ⟨k.os.trans h.os, k.tape.trans h.tape, k.output.trans h.output, Nat.le_trans h.size k.size, fun j hj hr => (k.block j (Nat.lt_of_lt_of_le hj h.size) hr).trans (h.block j hj hr)⟩
theorem grown_set (w : World) (g j : Nat) (u : Value) : w.grownBy (w.setCell ⟨g, j, none⟩ u) (some g) :=
  have h : Below g w (w.setCell ⟨g, j, none⟩ u) := (Below.refl g w).setCell (p := ⟨g, j, none⟩) (Nat.le_refl _) u
  ⟨h.os, h.tape, h.output, h.size, fun k _ hr => Below.heap_setCell _ _ _ _ (by intro e; exact hr (congrArg some e))⟩
theorem grown_below {a b : World} {g B : Nat} (h : a.grownBy b (some g)) (hB : B ≤ g) (hs : B ≤ a.heap.size) : Below B a b :=
  ⟨h.os, h.tape, h.output, h.size, fun k hk => h.block k (by omega) (by intro e; injection e with e; omega)⟩
theorem Row.grown {w w' : World} {B g g' cap : Nat} {l : List Nat} (h : Row w B g' cap l) (k : w.grownBy w' (some g)) (hg : g' ≠ g) : Row w' B g' cap l :=
  World.ownsRow.kept (row := some g) h k (.inr (by simp [Value.ownBlock]; exact hg))
/-- the piece in the middle of a row -/
theorem mid_at (A S R C : List Nat) (x : Nat) : ∃ h : A.length + S.length < (A ++ (S ++ x :: R) ++ C).length, (A ++ (S ++ x :: R) ++ C)[A.length + S.length]'h = x := by
  refine ⟨by simp, ?_⟩
  simp [List.getElem_append_right]
theorem mid_set (A S R C : List Nat) (x v : Nat) : (A ++ (S ++ x :: R) ++ C).set (A.length + S.length) v = A ++ ((S ++ [v]) ++ R) ++ C := by
  rw [List.append_assoc, List.set_append_right _ _ (by omega), Nat.add_sub_cancel_left, List.append_assoc, List.set_append_right _ _ (Nat.le_refl _), Nat.sub_self]
  simp
/-- one piece of a sum with a carry -/
theorem back_step {S p1 b1 : List Nat} {c x y v c' : Nat} (hp : p1.length = S.length) (hb : b1.length = S.length) (h : pv S + 1000000000 ^ S.length * c = pv p1 + pv b1) (hv : v + 1000000000 * c' = c + (x + y)) :
    pv (S ++ [v]) + 1000000000 ^ (S.length + 1) * c' = pv (p1 ++ [x]) + pv (b1 ++ [y]) := by
  rw [pv_snoc, pv_snoc, pv_snoc, hp, hb, Nat.pow_succ, Nat.mul_assoc]
  have h2 : 1000000000 ^ S.length * (v + 1000000000 * c') = 1000000000 ^ S.length * (c + (x + y)) := by rw [hv]
  rw [Nat.mul_add, Nat.mul_add, Nat.mul_add] at h2
  omega

set_option maxHeartbeats 1600000 in
set_option maxRecDepth 100000 in
theorem giveBack_any (B g cap g' cap' : Nat) (A P C bl : List Nat) (w : World) (h : Row w B g cap (A ++ P ++ C)) (hb : Row w B g' cap' bl) (hg : g' ≠ g) (hl : P.length = bl.length) (hP9 : lt9 P) (hb9 : lt9 bl) (m : Nat) (hm : m = bl.length + 1) (hlen : bl.length ≤ 200000) :
    Calls Tryz.prog 160 #[.slice (some ⟨g, A.length, none⟩) m (cap - A.length), .slice (some ⟨g', 0, none⟩) bl.length cap'] w fun e w' => ∃ (S : List Nat) (c : Nat), e = .returned (.tuple #[]) ∧ S.length = bl.length ∧ lt9 S ∧ pv S + 1000000000 ^ bl.length * c = pv P + pv bl ∧ Row w' B g cap (A ++ S ++ C) ∧ w.grownBy w' (some g) := by
  have hlc := hb.len_cap
  unfold maxLen at hlc
  have HH := Lib.hid h
  have HBR := Lib.hid hb
  have HP9 := Lib.hid hP9
  have HB9 := Lib.hid hb9
  have HL := Lib.hid hl
  have HM := Lib.hid hm
  have hmi : (m : Int) = (bl.length : Int) + 1 := by omega
  clear h hb hP9 hb9 hl hm
  go_enter Tryz.func160, Tryz.ntmps160
  go_wp2_with fail
  go_loopw [4, 5, 6, 9] (fun cv _ _ iv wr => ∃ (i c : Nat) (S p1 R b1 b2 : List Nat), iv = .int .i64 i ∧ i ≤ bl.length ∧ cv = .int .u64 c ∧ c ≤ 1 ∧ Hid (S.length = i ∧ p1.length = i ∧ b1.length = i ∧ P = p1 ++ R ∧ bl = b1 ++ b2 ∧ lt9 S ∧ pv S + 1000000000 ^ S.length * c = pv p1 + pv b1) ∧ Row wr B g cap (A ++ (S ++ R) ++ C) ∧ w.grownBy wr (some g)) (fun _ _ _ iv _ => bl.length - (intOf iv).toNat)
  case atStart => exact ⟨0, 0, [], [], P, [], bl, rfl, Nat.zero_le _, rfl, by omega, Lib.hid ⟨rfl, rfl, rfl, rfl, rfl, (by intro x hx; cases hx), rfl⟩, HH.out, grown_refl _ _⟩
  case round =>
    obtain ⟨i, c, S, p1, R, b1, b2, rfl, hi, rfl, hc, HI, hrow, hgr⟩ := hrel
    by_cases hlt : i < bl.length
    · obtain ⟨e1, e2, e3, e4, e5, e6, e7⟩ := HI.out
      obtain ⟨x, R, rfl⟩ : ∃ x R', R = x :: R' := by
        cases R with
        | nil => have := HL.out; rw [e4, List.append_nil] at this; omega
        | cons x R' => exact ⟨x, R', rfl⟩
      obtain ⟨y, b2, rfl⟩ : ∃ y b', b2 = y :: b' := by
        cases b2 with
        | nil => rw [e5, List.append_nil] at hlt; omega
        | cons y b' => exact ⟨y, b', rfl⟩
      have hx9 : x < 1000000000 := HP9.out x (by rw [e4]; simp)
      have hy9 : y < 1000000000 := HB9.out y (by rw [e5]; simp)
      obtain ⟨hk, hat⟩ := mid_at A S R C x
      have hcell := hrow.cell _ hk
      rw [hat] at hcell
      have hfree := hrow.free (A.length + S.length)
      have hbc := (HBR.out.grown hgr hg).cell i hlt
      have hby : bl[i]'hlt = y := by
        simp only [e5]
        rw [List.getElem_append_right (by omega)]
        simp [e3]
      rw [hby] at hbc
      obtain ⟨v, hv⟩ : ∃ v, v = (c + (x + y)) % 1000000000 := ⟨_, rfl⟩
      obtain ⟨c2, hc2⟩ : ∃ c2, c2 = (c + (x + y)) / 1000000000 := ⟨_, rfl⟩
      have hset := hrow.set (A.length + S.length) v
      rw [mid_set] at hset
      have HSET := Lib.hid hset
      have HGR := Lib.hid (grown_trans hgr (grown_set wr g (A.length + S.length) (.int .u64 (v : Int))))
      have hst := back_step (x := x) (y := y) (v := v) (c' := c2) (by omega) (by omega) e7 (by omega)
      have HI2 : Hid ((S ++ [v]).length = i + 1 ∧ (p1 ++ [x]).length = i + 1 ∧ (b1 ++ [y]).length = i + 1 ∧ P = (p1 ++ [x]) ++ R ∧ bl = (b1 ++ [y]) ++ b2 ∧ lt9 (S ++ [v]) ∧ pv (S ++ [v]) + 1000000000 ^ (S ++ [v]).length * c2 = pv (p1 ++ [x]) + pv (b1 ++ [y])) :=
        Lib.hid ⟨by simp; omega, by simp; omega, by simp; omega, by rw [e4]; simp, by rw [e5]; simp, lt9_snoc e6 (by omega), by rw [List.length_append]; exact hst⟩
      have hvi : ((c : Int) + ((x : Int) + (y : Int))) % 1000000000 = (v : Int) := by omega
      have hci : ((c : Int) + ((x : Int) + (y : Int))) / 1000000000 = (c2 : Int) := by omega
      have hc2b : c2 ≤ 1 ∨ c2 = 2 := by omega
      have hc2c : c2 ≤ 1 := by omega
      rw [e1] at hcell hfree HSET HGR
      clear e1 e2 e3 e4 e5 e6 e7 hk hat hv hc2 hset hst hrow hgr hby HI hc2b
      go_wp2_with fail
      refine ⟨⟨i + 1, c2, S ++ [v], p1 ++ [x], R, b1 ++ [y], b2, by push_cast; rfl, by omega, by rw [hci], hc2c, HI2, HSET.out, HGR.out⟩, ?_⟩
      simp [intOf] <;> omega
    · obtain rfl : i = bl.length := by omega
      obtain ⟨e1, e2, e3, e4, e5, e6, e7⟩ := HI.out
      have eR : R = [] := by
        cases R with
        | nil => rfl
        | cons x R' =>
          have := HL.out
          rw [e4, List.length_append, e2, List.length_cons] at this; omega
      have eb : b2 = [] := by
        cases b2 with
        | nil => rfl
        | cons x R' =>
          have := congrArg List.length e5
          rw [List.length_append, e3, List.length_cons] at this; omega
      subst eR eb
      rw [List.append_nil] at e4 e5 hrow
      have HF : Hid (S.length = bl.length ∧ lt9 S ∧ pv S + 1000000000 ^ bl.length * c = pv P + pv bl) := Lib.hid ⟨e1, e6, by rw [← e1, e7, ← e4, ← e5]⟩
      have HROW := Lib.hid hrow
      have HGR := Lib.hid hgr
      clear e1 e2 e3 e4 e5 e6 e7 hrow hgr HI
      go_wp2_with fail
      first | go_end0 | refine bodyPost_end (results_none rfl _ _ _) rfl ?_
      exact ⟨S, c, rfl, HF.out.1, HF.out.2.1, HF.out.2.2, HROW.out, HGR.out⟩
end Go.Proofs.YtjebddpapbopnaaGreatDoor

namespace Go.Proofs.YtjebddpapbopnaaGreatDoor
open Go.RowKit

set_option maxHeartbeats 400000 in
theorem div64_q0 (lo y : Nat) (hy : 0 < y) (hlo : lo < 18446744073709551616) (w : World) :
    Calls Tryz.prog 145 #[.int .u64 0, .int .u64 lo, .int .u64 y] w fun e w' => e = .returned (.tuple #[.int .u64 ((lo / y : Nat) : Int), .int .u64 ((lo % y : Nat) : Int)]) ∧ ∃ m, w' = w.drewN m := by
  have hy0 : ((y : Int) == 0) = false := by rw [beq_eq_false_iff_ne]; omega
  have hwr : IntKind.u64.wrap ((lo : Int) / (y : Int)) = (lo : Int) / (y : Int) := by
    have hq := Nat.div_le_self lo y
    rw [← Int.natCast_ediv, IntKind.wrap_u64]; generalize lo / y = q at hq ⊢; omega
  clear hlo
  go_enter Tryz.func145, Tryz.ntmps145
  go_wp2
  go_quiet (fail)
  go_wp2
  go_ret2
  exact ⟨ret_two (a := .int .u64 ((lo : Int) / (y : Int))) (c := .int .u64 ((lo : Int) % (y : Int))) (by rw [Int.natCast_ediv]) (by rw [Int.natCast_emod]), _, rfl⟩
theorem div64_q (hi lo y : Nat) (hy : hi < y) (hy2 : y < 18446744073709551616) (hlo : lo < 18446744073709551616) (w : World) :
    Calls Tryz.prog 145 #[.int .u64 hi, .int .u64 lo, .int .u64 y] w fun e w' => e = .returned (.tuple #[.int .u64 (((hi * 18446744073709551616 + lo) / y : Nat) : Int), .int .u64 (((hi * 18446744073709551616 + lo) % y : Nat) : Int)]) ∧ ∃ m, w' = w.drewN m := by
  by_cases h : hi = 0
  · subst h
    rw [Nat.zero_mul, Nat.zero_add]
    exact div64_q0 lo y hy hlo w
  · refine (div64_big hi lo y (by omega) hy hy2 hlo w).mono ?_
    rintro e w' ⟨rfl, rfl⟩
    exact ⟨rfl, 0, rfl⟩

/-- a quiet call behind draws that were made before -/
theorem quiet_behind {P : Program} {f : FuncId} {args : Array Value} {v : Value} (h : ∀ x : World, Calls P f args x fun e y => e = .returned v ∧ ∃ m, y = x.drewN m) {w : World} {a n : Nat} :
    Calls P f args (w.drewN (a + n)) fun e y => e = .returned v ∧ ∃ m, y = w.drewN (a + m) :=
  (h (w.drewN (a + n))).mono fun e y hy => ⟨hy.1, by obtain ⟨m, hm⟩ := hy.2; exact ⟨n + m, by rw [hm, World.drewN_drewN, Nat.add_assoc]⟩⟩

set_option maxHeartbeats 1600000 in
set_option maxRecDepth 100000 in
theorem guess_cells (g g' o n cap cap' m n1 n2 t x1 x2 y1 y2 : Nat) (w : World) (hn1 : n = n1 + 1) (hn2 : n1 = n2 + 1) (hn : n ≤ 200000) (hm : m = n + 1) (ht : t < 1000000000) (hx1 : x1 < 1000000000) (hx2 : x2 < 1000000000) (hy0 : 1 ≤ y1) (hy1 : y1 < 1000000000) (hy2 : y2 < 1000000000)
    (c0 : w.cell? ⟨g, o + n, none⟩ = some (.int .u64 (t : Int))) (c1 : w.cell? ⟨g, o + n1, none⟩ = some (.int .u64 (x1 : Int))) (c2 : w.cell? ⟨g, o + n2, none⟩ = some (.int .u64 (x2 : Int)))
    (d1 : w.cell? ⟨g', n1, none⟩ = some (.int .u64 (y1 : Int))) (d2 : w.cell? ⟨g', n2, none⟩ = some (.int .u64 (y2 : Int))) :
    Calls Tryz.prog 159 #[.slice (some ⟨g, o, none⟩) m cap, .slice (some ⟨g', 0, none⟩) n cap'] w fun e w' => e = .returned (.int .u64 ((((t * 1000000000 + x1) * 1000000000 + x2) / (y1 * 1000000000 + y2) : Nat) : Int)) ∧ ∃ k, w' = w.drewN k := by
  obtain ⟨tA, htA⟩ : ∃ tA, tA = t * 1000000000 := ⟨_, rfl⟩
  obtain ⟨p1, hp1⟩ : ∃ p1, p1 = tA + x1 := ⟨_, rfl⟩
  obtain ⟨yA, hyA⟩ : ∃ yA, yA = y1 * 1000000000 := ⟨_, rfl⟩
  obtain ⟨Y, hY⟩ : ∃ Y, Y = yA + y2 := ⟨_, rfl⟩
  rw [← htA, ← hp1, ← hyA, ← hY]
  have hm0 := fun w => Tryz.bits_Mul64 p1 1000000000 (by omega) (by omega) w
  obtain ⟨V, hV⟩ : ∃ V : Nat, V = p1 * 1000000000 := ⟨_, rfl⟩
  rw [← hV] at hm0 ⊢
  obtain ⟨hi, hhi⟩ : ∃ hi : Nat, hi = V / 18446744073709551616 := ⟨_, rfl⟩
  obtain ⟨lo, hlo⟩ : ∃ lo : Nat, lo = V % 18446744073709551616 := ⟨_, rfl⟩
  rw [← hhi, ← hlo] at hm0
  obtain ⟨c, hc⟩ : ∃ c : Nat, c = (lo + x2) / 18446744073709551616 := ⟨_, rfl⟩
  obtain ⟨l2, hl2⟩ : ∃ l2 : Nat, l2 = (lo + x2) % 18446744073709551616 := ⟨_, rfl⟩
  obtain ⟨h2, hh2⟩ : ∃ h2 : Nat, h2 = hi + c := ⟨_, rfl⟩
  have ha' : ∀ wx, (callFunc 94 #[.int .u64 (lo : Int), .int .u64 (x2 : Int), .int .u64 0]).run Tryz.prog wx = .ok (.value (.tuple #[.int .u64 (l2 : Int), .int .u64 (c : Int)])) wx := fun wx => by
    have h := Tryz.bits_Add64 lo x2 0 (by omega) wx
    rw [Nat.add_zero, ← hc, ← hl2] at h
    exact h
  have hlt : h2 < Y := by omega
  have hd := fun wx => div64_q h2 l2 Y hlt (by omega) (by omega) wx
  rw [show h2 * 18446744073709551616 + l2 = V + x2 by omega] at hd
  obtain ⟨D, hD⟩ : ∃ D, D = (V + x2) / Y := ⟨_, rfl⟩
  rw [← hD] at hd ⊢
  have HM := Lib.hid hm0
  have HD := Lib.hid hd
  have hmi : (m : Int) = (n : Int) + 1 := by omega
  have hn1b : (n1 : Int) < (n : Int) := by omega
  have hn2b : (n2 : Int) < (n : Int) := by omega
  have wA : IntKind.u64.wrap ((t : Int) * 1000000000) = (tA : Int) := by rw [IntKind.wrap_u64]; omega
  have wB : IntKind.u64.wrap ((tA : Int) + (x1 : Int)) = (p1 : Int) := by rw [IntKind.wrap_u64]; omega
  have wC : IntKind.u64.wrap ((y1 : Int) * 1000000000) = (yA : Int) := by rw [IntKind.wrap_u64]; omega
  have wD : IntKind.u64.wrap ((yA : Int) + (y2 : Int)) = (Y : Int) := by rw [IntKind.wrap_u64]; omega
  have wE : IntKind.u64.wrap ((hi : Int) + (c : Int)) = (h2 : Int) := by rw [IntKind.wrap_u64]; omega
  have wF : IntKind.i64.wrap ((n : Int) - 1) = (n1 : Int) := by rw [IntKind.wrap_i64]; omega
  have wG : IntKind.i64.wrap ((n : Int) - 2) = (n2 : Int) := by rw [IntKind.wrap_i64]; omega
  have wH : (n : Int) - 2 = (n2 : Int) := by omega
  clear hm0 hd hV hhi hlo hc hl2 hh2 htA hp1 hyA hY hD hlt hn1 hn2 hm
  go_enter Tryz.func159, Tryz.ntmps159
  go_wp2_with fail
  go_quiet ((go_at_call 100; exact Calls.quiet_of_same (HM.out _)))
  go_wp2_with fail
  go_quiet ((go_at_call 145; exact quiet_behind HD.out))
  go_wp2_with fail
  go_ret
  exact ⟨rfl, _, World.drewN_drewN _ _ _⟩
end Go.Proofs.YtjebddpapbopnaaGreatDoor
