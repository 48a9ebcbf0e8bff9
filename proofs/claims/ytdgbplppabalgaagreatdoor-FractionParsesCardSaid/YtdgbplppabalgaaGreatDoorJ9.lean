/-
  Texts of one seat, joined: Reduce Quot Divide Known Tools Refs RefAdd RefSub.
-/
import Derived.Test.YtdgbplppabalgaaGreatDoorJ8
import Derived.Maps.AppendAt
import Derived.Test.YtdgbplppabalgaaGreatDoorJ3
import Derived.Test.YtdgbplppabalgaaGreatDoorJ5
namespace Go.Proofs.YtdgbplppabalgaaGreatDoor
open Go.RowKit

theorem pv_consN (x : Nat) (l : List Nat) : pv (x :: l) = x + 1000000000 * pv l := by
  simp [pv]
theorem top_big {b : List Nat} (h : Go.Proofs.YtdgbplppabalgaaGreatDoor.top b) (h0 : b ≠ []) : 1000000000 ^ (b.length - 1) ≤ pv b := by
  rcases snoc_cases b with rfl | ⟨l, x, rfl⟩
  · exact absurd rfl h0
  · have hx : x ≠ 0 := by intro e; rw [e] at h; simp [Go.Proofs.YtdgbplppabalgaaGreatDoor.top] at h
    rw [pv_snoc, List.length_append, List.length_singleton, Nat.add_sub_cancel]
    have : 1000000000 ^ l.length * 1 ≤ 1000000000 ^ l.length * x := Nat.mul_le_mul_left _ (by omega)
    omega
theorem zeros_pv (X : List Nat) (k : Nat) : pv (X ++ List.replicate k 0) = pv X := by rw [pv_append, pv_replicate]; simp

set_option maxHeartbeats 3200000 in
set_option maxRecDepth 100000 in
theorem reduce_nil (B g cap g' cap' : Nat) (a b : List Nat) (w : World) (ha : Row w B g cap a) (hb : Row w B g' cap' b) (hg : g' ≠ g) (hab : b.length ≤ a.length) (h2 : 2 ≤ b.length) (ha9 : lt9 a) (hb9 : lt9 b) (htop : Go.Proofs.YtdgbplppabalgaaGreatDoor.top b) (hlen : a.length ≤ 200000) (hB : B ≤ w.heap.size) :
    Calls Tryz.prog 187 #[.slice (some ⟨g, 0, none⟩) a.length cap, .slice (some ⟨g', 0, none⟩) b.length cap', .slice none 0 0] w fun e w' => ∃ (g1 cap1 : Nat) (p : List Nat), e = .returned (.slice (some ⟨g1, 0, none⟩) p.length cap1) ∧ Pcs p (pv a % pv b) ∧ Row w' B g1 cap1 p ∧ Row w' B g' cap' b ∧ g1 ≠ g' ∧ Below B w w' := by
  obtain ⟨i0, hi, hz0, hz1, hz2⟩ := info_parts info64
  have hlca := ha.len_cap
  have hlcb := hb.len_cap
  unfold maxLen at hlca hlcb
  have HA := Lib.hid ha
  have HB := Lib.hid hb
  have hb0 : 0 < pv b := Nat.lt_of_lt_of_le (Nat.pow_pos (by decide)) (top_big htop (by intro e; rw [e] at h2; simp at h2))
  have HB9 := Lib.hid hb9
  have HA9 := Lib.hid ha9
  have HT := Lib.hid htop
  have HB0 := Lib.hid hb0
  have HGB := Lib.hid hb.lt
  have HGA := Lib.hid ha.lt
  clear ha hb ha9 hb9 htop hb0
  go_enter Tryz.func187, Tryz.ntmps187
  go_wp2_with (first
    | (at_builtin; refine wpList_append_own_at _ rfl _ _ 161 rfl B 135 i0 (.int .u64 0) 1 8 Tryz.underlying161 hi hz0 hz1 hz2 rfl (by decide) _ _ _ rfl (World.ownsRow.alloc HA.out _) ⟨w.heap.size, 0, none⟩ 1 1 [.int .u64 0] rfl rfl ?c1 ?c2 ?c3 ?c4 ?c5 ?_)
    | fail)
  case c1 =>
    intro j u hj
    match j, hj with
    | 0, hj => simp at hj; subst hj; simp [Addr.add]
  case c2 => intro u hu; simp at hu; subst hu; rfl
  case c3 => unfold maxLen; omega
  case c4 => omega
  case c5 => simp; omega
  · intro v' w2 hown' hgrow _ hblk
    obtain ⟨g1, cap1, rfl⟩ := own_some hown' (by omega)
    have hrow' : Row w2 B g1 cap1 (a ++ [0]) := Row.of hown' (by simp) (by rw [c64_append]; rfl)
    have hgg : g' ≠ g1 := by
      have h1 := HGB.out.2
      rcases hblk with h | h
      · simp [Value.ownBlock] at h; omega
      · simp [Value.ownBlock] at h; omega
    have hbel : Below B w w2 := (((Below.refl B w).alloc hB _).grown hgrow (by simp; omega) (by intro q hq; simp [Value.ownBlock] at hq; have := HGA.out; omega))
    have hrb : Row w2 B g' cap' b := World.ownsRow.kept (World.ownsRow.alloc HB.out _) hgrow (.inr (by simp [Value.ownBlock]; exact hg))
    have HROW := Lib.hid hrow'
    have HRB := Lib.hid hrb
    have HBEL := Lib.hid hbel
    have hl1 : (a ++ [0]).length = a.length + 1 := by simp
    have hlc1 := hrow'.len_cap
    unfold maxLen at hlc1
    rw [hl1] at hlc1
    have HG1 := Lib.hid hrow'.lt
    clear hown' hgrow hblk hrow' hrb hbel hl1
    go_wp2_with fail
    go_loopw [8, 9] (fun iv _ wr => ∃ (E : Int) (k z : Nat) (A Wd : List Nat), iv = .int .i64 E ∧ -1 ≤ E ∧ E ≤ a.length ∧ Hid (E = (k : Int) - 1 ∧ A.length = k ∧ Wd.length = b.length ∧ lt9 A ∧ lt9 Wd ∧ pv Wd < pv b ∧ pv (A ++ Wd) % pv b = pv a % pv b ∧ k + b.length + z = a.length + 1) ∧ Row wr B g1 cap1 (A ++ Wd ++ List.replicate z 0) ∧ w2.grownBy wr (some g1)) (fun iv _ _ => (intOf iv + 1).toNat)
    case atStart =>
      refine ⟨(a.length : Int) - (b.length : Int), a.length - b.length + 1, 0, a.take (a.length - b.length + 1), a.drop (a.length - b.length + 1) ++ [0], rfl, by omega, by omega, ?_, ?_, grown_refl _ _⟩
      · refine Lib.hid ⟨by omega, by rw [List.length_take]; omega, by simp; omega, lt9_take HA9.out _, lt9_snoc (lt9_drop HA9.out _) (by decide), ?_, ?_, by omega⟩
        · have h1 := zeros_pv (a.drop (a.length - b.length + 1)) 1
          rw [show [0] = List.replicate 1 0 from rfl, h1]
          have h3 := pv_lt _ (lt9_drop HA9.out (a.length - b.length + 1))
          have h4 := top_big HT.out (by intro e; rw [e] at h2; simp at h2)
          rw [List.length_drop, show a.length - (a.length - b.length + 1) = b.length - 1 by omega] at h3
          omega
        · rw [← List.append_assoc, List.take_append_drop, show [0] = List.replicate 1 0 from rfl, zeros_pv]
      · rw [← List.append_assoc, List.take_append_drop, List.replicate_zero, List.append_nil]; exact HROW.out
    case round =>
      obtain ⟨E, k, z, A, Wd, rfl, hE1, hE2, HI, hrow, hgr⟩ := hrel
      have hkE := HI.1
      by_cases hE : 0 ≤ E
      · obtain ⟨j, rfl⟩ : ∃ j : Nat, E = j := ⟨E.toNat, by omega⟩
        obtain rfl : k = j + 1 := by omega
        obtain ⟨e0, e1, e2, e3, e4, e5, e6, e7⟩ := HI.out
        rcases snoc_cases A with rfl | ⟨A', x, rfl⟩
        · simp at e1
        rcases snoc_cases Wd with rfl | ⟨W', t, rfl⟩
        · simp at e2; omega
        have hA' : A'.length = j := by simp at e1; exact e1
        have hW' : (x :: W').length = b.length := by simp at e2 ⊢; omega
        have hx9 : x < 1000000000 := e3 x (by simp)
        have ht9 : t < 1000000000 := e4 t (by simp)
        have hP9 : lt9 (x :: W') := by
          intro y hy
          rcases List.mem_cons.1 hy with rfl | hy
          · exact hx9
          · exact e4 y (by simp [hy])
        have hwin : pv (x :: W') + 1000000000 ^ b.length * t = x + 1000000000 * pv (W' ++ [t]) := by
          rw [← hW', ← pv_snoc, List.cons_append, pv_consN]
        have hrow2 : Row wr B g1 cap1 (A' ++ (x :: W') ++ t :: List.replicate z 0) := by
          have e : A' ++ [x] ++ (W' ++ [t]) ++ List.replicate z 0 = A' ++ (x :: W') ++ t :: List.replicate z 0 := by simp
          rw [← e]; exact hrow
        have htk := takeAway_any B g1 cap1 g' cap' A' (x :: W') (List.replicate z 0) b t wr hrow2 (HRB.out.grown hgr hgg) hgg hW' h2 hP9 ht9 HB9.out HT.out (by rw [hwin]; omega) (j + b.length + 1 - j) (by omega) (by omega)
        rw [hA'] at htk
        have HTK := Lib.hid htk
        have HGR := Lib.hid hgr
        have next : ∀ S : List Nat, S.length = b.length → lt9 S → pv S = (pv (x :: W') + 1000000000 ^ b.length * t) % pv b →
            Hid ((j : Int) - 1 = (j : Int) - 1 ∧ A'.length = j ∧ S.length = b.length ∧ lt9 A' ∧ lt9 S ∧ pv S < pv b ∧ pv (A' ++ S) % pv b = pv a % pv b ∧ j + b.length + (z + 1) = a.length + 1) := fun S hS hS9 hSv => by
          refine Lib.hid ⟨rfl, hA', hS, fun y hy => e3 y (by simp [hy]), hS9, by rw [hSv]; exact Nat.mod_lt _ HB0.out, ?_, by omega⟩
          rw [← e6, pv_append, show A' ++ [x] ++ (W' ++ [t]) = A' ++ (x :: (W' ++ [t])) by simp, pv_append, pv_consN, hSv, hwin]
          rw [Nat.add_mod, Nat.mul_mod, Nat.mod_mod, ← Nat.mul_mod, ← Nat.add_mod]
        have NEXT := Lib.hid next
        have hjb : j + b.length ≤ a.length := by omega
        clear e0 e1 e2 e3 e4 e5 e6 e7 hA' hP9 hwin hrow hrow2 htk hgr next hkE HI hW' hx9 ht9
        go_wp2_with fail
        refine HTK.out.mono ?_
        rintro e w3 ⟨S, rfl, k1, k2, k3, k4, k5⟩
        have HN := NEXT.out S k1 k2 k3
        have HK4 := Lib.hid k4
        have HK5 := Lib.hid (grown_trans HGR.out k5)
        clear k1 k2 k3 k4 k5
        go_wp2_with fail
        refine ⟨⟨(j : Int) - 1, j, z + 1, A', S, rfl, by omega, by omega, Lib.hid ⟨rfl, HN.out.2⟩, by rw [List.replicate_succ]; exact HK4.out, HK5.out⟩, ?_⟩
        clear NEXT HN HK4 HK5
        show ((j : Int) - 1 + 1).toNat < ((j : Int) + 1).toNat
        omega
      · obtain rfl : k = 0 := by omega
        obtain ⟨e0, e1, e2, e3, e4, e5, e6, e7⟩ := HI.out
        obtain rfl : A = [] := List.length_eq_zero_iff.1 e1
        rw [List.nil_append] at hrow e6
        have h9 : lt9 (Wd ++ List.replicate z 0) := by
          intro y hy
          rcases List.mem_append.1 hy with h | h
          · exact e4 y h
          · rw [(List.mem_replicate.1 h).2]; decide
        have hL : (Wd ++ List.replicate z 0).length = a.length + 1 := by simp; omega
        have hpc := Pcs.of_trim h9
        rw [zeros_pv, show pv Wd = pv a % pv b by rw [← e6]; exact (Nat.mod_eq_of_lt e5).symm] at hpc
        have ht := trim_any B g1 cap1 _ wr hrow
        rw [hL] at ht
        have HTR := Lib.hid ht
        have htk := hrow.take (trimP (Wd ++ List.replicate z 0)).length (trimP_props _).2.2.2.1
        rw [← (trimP_props (Wd ++ List.replicate z 0)).2.2.2.2] at htk
        have HF := Lib.hid (show Pcs (trimP (Wd ++ List.replicate z 0)) (pv a % pv b) ∧ Row wr B g1 cap1 (trimP (Wd ++ List.replicate z 0)) ∧ Row wr B g' cap' b ∧ g1 ≠ g' ∧ Below B w wr from
          ⟨hpc, htk, HRB.out.grown hgr hgg, fun e => hgg e.symm, HBEL.out.trans (grown_below hgr HG1.out.1 (by have := HG1.out; omega))⟩)
        clear e0 e1 e2 e3 e4 e5 e6 h9 hpc ht htk hrow hgr hkE HI
        go_wp2_with fail
        refine HTR.out.mono ?_
        rintro e w3 ⟨rfl, rfl⟩
        go_wp2_with fail
        go_ret
        exact ⟨g1, cap1, _, rfl, HF.out.1, HF.out.2.1, HF.out.2.2.1, HF.out.2.2.2.1, HF.out.2.2.2.2⟩

set_option maxHeartbeats 3200000 in
set_option maxRecDepth 100000 in
theorem reduce_less (B g cap g' cap' : Nat) (a b : List Nat) (w : World) (ha : Row w B g cap a) (hb : Row w B g' cap' b) (hg : g' ≠ g) (hab : a.length < b.length) (ha9 : lt9 a) (htop : Go.Proofs.YtdgbplppabalgaaGreatDoor.top b) (hlen : a.length ≤ 200000) (hB : B ≤ w.heap.size) :
    Calls Tryz.prog 187 #[.slice (some ⟨g, 0, none⟩) a.length cap, .slice (some ⟨g', 0, none⟩) b.length cap', .slice none 0 0] w fun e w' => ∃ (g1 cap1 : Nat) (p : List Nat), e = .returned (.slice (some ⟨g1, 0, none⟩) p.length cap1) ∧ Pcs p (pv a % pv b) ∧ Row w' B g1 cap1 p ∧ Row w' B g' cap' b ∧ g1 ≠ g' ∧ Below B w w' := by
  obtain ⟨i0, hi, hz0, hz1, hz2⟩ := info_parts info64
  have hlca := ha.len_cap
  have hlcb := hb.len_cap
  unfold maxLen at hlca hlcb
  have HA := Lib.hid ha
  have HB := Lib.hid hb
  have hlt : pv a < pv b := by
    have h1 := top_big htop (by intro e; rw [e] at hab; simp at hab)
    have h3 := pv_lt a ha9
    have h4 : 1000000000 ^ a.length ≤ 1000000000 ^ (b.length - 1) := Nat.pow_le_pow_right (by decide) (by omega)
    omega
  have HA9 := Lib.hid ha9
  have HLT := Lib.hid hlt
  have HGB := Lib.hid hb.lt
  have HGA := Lib.hid ha.lt
  clear ha hb ha9 htop hlt
  go_enter Tryz.func187, Tryz.ntmps187
  go_wp2_with (first
    | (at_builtin; refine wpList_append_own_at _ rfl _ _ 161 rfl B 135 i0 (.int .u64 0) 1 8 Tryz.underlying161 hi hz0 hz1 hz2 rfl (by decide) _ _ _ rfl (World.ownsRow.alloc HA.out _) ⟨w.heap.size, 0, none⟩ 1 1 [.int .u64 0] rfl rfl ?c1 ?c2 ?c3 ?c4 ?c5 ?_)
    | fail)
  case c1 =>
    intro j u hj
    match j, hj with
    | 0, hj => simp at hj; subst hj; simp [Addr.add]
  case c2 => intro u hu; simp at hu; subst hu; rfl
  case c3 => unfold maxLen; omega
  case c4 => omega
  case c5 => simp; omega
  · intro v' w2 hown' hgrow _ hblk
    obtain ⟨g1, cap1, rfl⟩ := own_some hown' (by omega)
    have hrow' : Row w2 B g1 cap1 (a ++ [0]) := Row.of hown' (by simp) (by rw [c64_append]; rfl)
    have hgg : g' ≠ g1 := by
      have h1 := HGB.out.2
      rcases hblk with h | h
      · simp [Value.ownBlock] at h; omega
      · simp [Value.ownBlock] at h; omega
    have hbel : Below B w w2 := (((Below.refl B w).alloc hB _).grown hgrow (by simp; omega) (by intro q hq; simp [Value.ownBlock] at hq; have := HGA.out; omega))
    have hrb : Row w2 B g' cap' b := World.ownsRow.kept (World.ownsRow.alloc HB.out _) hgrow (.inr (by simp [Value.ownBlock]; exact hg))
    have HROW := Lib.hid hrow'
    have HRB := Lib.hid hrb
    have HBEL := Lib.hid hbel
    have hl1 : (a ++ [0]).length = a.length + 1 := by simp
    have hlc1 := hrow'.len_cap
    unfold maxLen at hlc1
    rw [hl1] at hlc1
    have HG1 := Lib.hid hrow'.lt
    clear hown' hgrow hblk hrow' hrb hbel hl1
    go_wp2_with fail
    go_loopw [8, 9] (fun iv _ wr => iv = .int .i64 ((a.length : Int) - (b.length : Int)) ∧ wr = w2) (fun _ _ _ => 0)
    case atStart => exact ⟨rfl, rfl⟩
    case round =>
      obtain ⟨rfl, hw⟩ := hrel
      obtain rfl := hw.symm
      clear hw
      have hneg : (a.length : Int) - (b.length : Int) < 0 := by omega
      have h9 : lt9 (a ++ [0]) := lt9_snoc HA9.out (by decide)
      have hpc := Pcs.of_trim h9
      have hz := zeros_pv a 1
      rw [show a ++ List.replicate 1 0 = a ++ [0] from rfl] at hz
      rw [hz, show pv a = pv a % pv b from (Nat.mod_eq_of_lt HLT.out).symm] at hpc
      have hrow := HROW.out
      have ht := trim_any B g1 cap1 _ w2 hrow
      have hl1 : (a ++ [0]).length = a.length + 1 := by simp
      rw [hl1] at ht
      have HTR := Lib.hid ht
      have htk := hrow.take (trimP (a ++ [0])).length (trimP_props _).2.2.2.1
      rw [← (trimP_props (a ++ [0])).2.2.2.2] at htk
      have HF := Lib.hid (show Pcs (trimP (a ++ [0])) (pv a % pv b) ∧ Row w2 B g1 cap1 (trimP (a ++ [0])) ∧ Row w2 B g' cap' b ∧ g1 ≠ g' ∧ Below B w w2 from
        ⟨hpc, htk, HRB.out, fun e => hgg e.symm, HBEL.out⟩)
      clear h9 hpc hz hrow ht htk hl1
      go_wp2_with fail
      refine HTR.out.mono ?_
      rintro e w3 ⟨rfl, rfl⟩
      go_wp2_with fail
      go_ret
      exact ⟨g1, cap1, _, rfl, HF.out.1, HF.out.2.1, HF.out.2.2.1, HF.out.2.2.2.1, HF.out.2.2.2.2⟩
end Go.Proofs.YtdgbplppabalgaaGreatDoor

namespace Go.Proofs.YtdgbplppabalgaaGreatDoor
open Go.RowKit

theorem rep_at (j : Nat) (Q : List Nat) : ∃ h : j < (List.replicate (j + 1) 0 ++ Q).length, (List.replicate (j + 1) 0 ++ Q)[j]'h = 0 :=
  ⟨by simp; omega, by rw [List.getElem_append_left (by simp)]; simp⟩
theorem rep_set (j d : Nat) (Q : List Nat) : (List.replicate (j + 1) 0 ++ Q).set j d = List.replicate j 0 ++ d :: Q := by
  rw [List.replicate_succ', List.append_assoc, List.set_append_right _ _ (by simp)]; simp
theorem quot_step {P b m T d s j : Nat} (h : s + b * d = T) : P + 1000000000 ^ j * s + b * (1000000000 ^ j * (d + 1000000000 * m)) = P + 1000000000 ^ j * T + b * (1000000000 ^ (j + 1) * m) := by
  subst h
  obtain ⟨u, hu⟩ : ∃ u, u = 1000000000 ^ j := ⟨_, rfl⟩
  rw [Nat.pow_succ, ← hu]
  simp only [Nat.mul_add]
  have e1 : b * (u * d) = u * (b * d) := by rw [Nat.mul_left_comm]
  have e2 : b * (u * (1000000000 * m)) = b * (u * 1000000000 * m) := by rw [Nat.mul_assoc u]
  rw [e1, e2]
  omega
theorem quot_end {s b q a : Nat} (hs : s < b) (h : s + b * q = a) : s = a % b ∧ q = a / b := by
  subst h
  exact ⟨by rw [Nat.add_mul_mod_self_left, Nat.mod_eq_of_lt hs], by rw [Nat.add_mul_div_left _ _ (by omega), Nat.div_eq_of_lt hs, Nat.zero_add]⟩

set_option maxHeartbeats 3200000 in
set_option maxRecDepth 100000 in
theorem reduce_quot (B g cap g' cap' gq capq n : Nat) (a b : List Nat) (w : World) (ha : Row w B g cap a) (hb : Row w B g' cap' b) (hq : Row w B gq capq (List.replicate n 0)) (hg : g' ≠ g) (hgq : gq ≠ g) (hgq' : gq ≠ g') (hn : n + b.length = a.length + 1) (hab : b.length ≤ a.length) (h2 : 2 ≤ b.length) (ha9 : lt9 a) (hb9 : lt9 b) (htop : Go.Proofs.YtdgbplppabalgaaGreatDoor.top b) (hlen : a.length ≤ 200000) (hB : B ≤ w.heap.size) :
    Calls Tryz.prog 187 #[.slice (some ⟨g, 0, none⟩) a.length cap, .slice (some ⟨g', 0, none⟩) b.length cap', .slice (some ⟨gq, 0, none⟩) n capq] w fun e w' => ∃ (g1 cap1 : Nat) (p q : List Nat), e = .returned (.slice (some ⟨g1, 0, none⟩) p.length cap1) ∧ Pcs p (pv a % pv b) ∧ lt9 q ∧ q.length = n ∧ pv q = pv a / pv b ∧ Row w' B g1 cap1 p ∧ Row w' B gq capq q ∧ Below B w w' := by
  obtain ⟨i0, hi, hz0, hz1, hz2⟩ := info_parts info64
  have hlca := ha.len_cap
  have hlcb := hb.len_cap
  unfold maxLen at hlca hlcb
  have hlcq := hq.len_cap
  unfold maxLen at hlcq
  rw [List.length_replicate] at hlcq
  have HQ := Lib.hid hq
  have HGQ := Lib.hid hq.lt
  have HA := Lib.hid ha
  have HB := Lib.hid hb
  have hb0 : 0 < pv b := Nat.lt_of_lt_of_le (Nat.pow_pos (by decide)) (top_big htop (by intro e; rw [e] at h2; simp at h2))
  have HB9 := Lib.hid hb9
  have HA9 := Lib.hid ha9
  have HT := Lib.hid htop
  have HB0 := Lib.hid hb0
  have HGB := Lib.hid hb.lt
  have HGA := Lib.hid ha.lt
  clear ha hb hq ha9 hb9 htop hb0
  go_enter Tryz.func187, Tryz.ntmps187
  go_wp2_with (first
    | (at_builtin; refine wpList_append_own_at _ rfl _ _ 161 rfl B 135 i0 (.int .u64 0) 1 8 Tryz.underlying161 hi hz0 hz1 hz2 rfl (by decide) _ _ _ rfl (World.ownsRow.alloc HA.out _) ⟨w.heap.size, 0, none⟩ 1 1 [.int .u64 0] rfl rfl ?c1 ?c2 ?c3 ?c4 ?c5 ?_)
    | fail)
  case c1 =>
    intro j u hj
    match j, hj with
    | 0, hj => simp at hj; subst hj; simp [Addr.add]
  case c2 => intro u hu; simp at hu; subst hu; rfl
  case c3 => unfold maxLen; omega
  case c4 => omega
  case c5 => simp; omega
  · intro v' w2 hown' hgrow _ hblk
    obtain ⟨g1, cap1, rfl⟩ := own_some hown' (by omega)
    have hrow' : Row w2 B g1 cap1 (a ++ [0]) := Row.of hown' (by simp) (by rw [c64_append]; rfl)
    have hgg : g' ≠ g1 := by
      have h1 := HGB.out.2
      rcases hblk with h | h
      · simp [Value.ownBlock] at h; omega
      · simp [Value.ownBlock] at h; omega
    have hgqg : gq ≠ g1 := by
      have h1 := HGQ.out.2
      rcases hblk with h | h
      · simp [Value.ownBlock] at h; omega
      · simp [Value.ownBlock] at h; omega
    have hrq : Row w2 B gq capq (List.replicate n 0) := World.ownsRow.kept (World.ownsRow.alloc HQ.out _) hgrow (.inr (by simp [Value.ownBlock]; exact hgq))
    have HRQ := Lib.hid hrq
    have hbel : Below B w w2 := (((Below.refl B w).alloc hB _).grown hgrow (by simp; omega) (by intro q hq; simp [Value.ownBlock] at hq; have := HGA.out; omega))
    have hrb : Row w2 B g' cap' b := World.ownsRow.kept (World.ownsRow.alloc HB.out _) hgrow (.inr (by simp [Value.ownBlock]; exact hg))
    have HROW := Lib.hid hrow'
    have HRB := Lib.hid hrb
    have HBEL := Lib.hid hbel
    have hl1 : (a ++ [0]).length = a.length + 1 := by simp
    have hlc1 := hrow'.len_cap
    unfold maxLen at hlc1
    rw [hl1] at hlc1
    have HG1 := Lib.hid hrow'.lt
    clear hown' hgrow hblk hrow' hrb hrq hbel hl1
    go_wp2_with fail
    go_loopw [8, 9] (fun iv _ wr => ∃ (E : Int) (k z : Nat) (A Wd Q : List Nat), iv = .int .i64 E ∧ -1 ≤ E ∧ E ≤ a.length ∧ Hid (E = (k : Int) - 1 ∧ A.length = k ∧ Wd.length = b.length ∧ lt9 A ∧ lt9 Wd ∧ pv Wd < pv b ∧ pv (A ++ Wd) + pv b * (1000000000 ^ k * pv Q) = pv a ∧ k + b.length + z = a.length + 1 ∧ lt9 Q ∧ k + Q.length = n) ∧ Row wr B g1 cap1 (A ++ Wd ++ List.replicate z 0) ∧ Row wr B gq capq (List.replicate k 0 ++ Q) ∧ Row wr B g' cap' b ∧ Below B w2 wr) (fun iv _ _ => (intOf iv + 1).toNat)
    case atStart =>
      refine ⟨(a.length : Int) - (b.length : Int), a.length - b.length + 1, 0, a.take (a.length - b.length + 1), a.drop (a.length - b.length + 1) ++ [0], [], rfl, by omega, by omega, ?_, ?_, ?_, HRB.out, Below.refl _ _⟩
      · refine Lib.hid ⟨by omega, by rw [List.length_take]; omega, by simp; omega, lt9_take HA9.out _, lt9_snoc (lt9_drop HA9.out _) (by decide), ?_, ?_, by omega, by simp [lt9], by simp; omega⟩
        · have h1 := zeros_pv (a.drop (a.length - b.length + 1)) 1
          rw [show [0] = List.replicate 1 0 from rfl, h1]
          have h3 := pv_lt _ (lt9_drop HA9.out (a.length - b.length + 1))
          have h4 := top_big HT.out (by intro e; rw [e] at h2; simp at h2)
          rw [List.length_drop, show a.length - (a.length - b.length + 1) = b.length - 1 by omega] at h3
          omega
        · rw [← List.append_assoc, List.take_append_drop, show [0] = List.replicate 1 0 from rfl, zeros_pv, show pv [] = 0 from rfl, Nat.mul_zero, Nat.mul_zero, Nat.add_zero]
      · rw [← List.append_assoc, List.take_append_drop, List.replicate_zero, List.append_nil]; exact HROW.out
      · rw [show a.length - b.length + 1 = n by omega, List.append_nil]; exact HRQ.out
    case round =>
      obtain ⟨E, k, z, A, Wd, Q, rfl, hE1, hE2, HI, hrow, hrowq, hrowb, hgr⟩ := hrel
      have hkE := HI.1
      by_cases hE : 0 ≤ E
      · obtain ⟨j, rfl⟩ : ∃ j : Nat, E = j := ⟨E.toNat, by omega⟩
        obtain rfl : k = j + 1 := by omega
        obtain ⟨e0, e1, e2, e3, e4, e5, e6, e7, e8, e9⟩ := HI.out
        rcases snoc_cases A with rfl | ⟨A', x, rfl⟩
        · simp at e1
        rcases snoc_cases Wd with rfl | ⟨W', t, rfl⟩
        · simp at e2; omega
        have hA' : A'.length = j := by simp at e1; exact e1
        have hW' : (x :: W').length = b.length := by simp at e2 ⊢; omega
        have hx9 : x < 1000000000 := e3 x (by simp)
        have ht9 : t < 1000000000 := e4 t (by simp)
        have hP9 : lt9 (x :: W') := by
          intro y hy
          rcases List.mem_cons.1 hy with rfl | hy
          · exact hx9
          · exact e4 y (by simp [hy])
        have hwin : pv (x :: W') + 1000000000 ^ b.length * t = x + 1000000000 * pv (W' ++ [t]) := by
          rw [← hW', ← pv_snoc, List.cons_append, pv_consN]
        have hrow2 : Row wr B g1 cap1 (A' ++ (x :: W') ++ t :: List.replicate z 0) := by
          have e : A' ++ [x] ++ (W' ++ [t]) ++ List.replicate z 0 = A' ++ (x :: W') ++ t :: List.replicate z 0 := by simp
          rw [← e]; exact hrow
        have htk := takeAway_any B g1 cap1 g' cap' A' (x :: W') (List.replicate z 0) b t wr hrow2 hrowb hgg hW' h2 hP9 ht9 HB9.out HT.out (by rw [hwin]; omega) (j + b.length + 1 - j) (by omega) (by omega)
        rw [hA'] at htk
        have HTK := Lib.hid htk
        have HGR := Lib.hid hgr
        have HQW := Lib.hid hrowq
        have HBW := Lib.hid hrowb
        have hT : pv (x :: W') + 1000000000 ^ b.length * t < pv b * 1000000000 := by rw [hwin]; omega
        obtain ⟨T, hTe⟩ : ∃ T, T = pv (x :: W') + 1000000000 ^ b.length * t := ⟨_, rfl⟩
        have hd9 : T / pv b < 1000000000 := by rw [Nat.div_lt_iff_lt_mul HB0.out, Nat.mul_comm, hTe]; exact hT
        rw [← hTe] at hT HTK
        obtain ⟨d, hd⟩ : ∃ d, d = T / pv b := ⟨_, rfl⟩
        rw [← hd] at hd9 HTK
        have next : ∀ S : List Nat, S.length = b.length → lt9 S → pv S = T % pv b →
            Hid ((j : Int) - 1 = (j : Int) - 1 ∧ A'.length = j ∧ S.length = b.length ∧ lt9 A' ∧ lt9 S ∧ pv S < pv b ∧ pv (A' ++ S) + pv b * (1000000000 ^ j * pv (d :: Q)) = pv a ∧ j + b.length + (z + 1) = a.length + 1 ∧ lt9 (d :: Q) ∧ j + (d :: Q).length = n) := fun S hS hS9 hSv => by
          refine Lib.hid ⟨rfl, hA', hS, fun y hy => e3 y (by simp [hy]), hS9, by rw [hSv]; exact Nat.mod_lt _ HB0.out, ?_, by omega, ?_, by simp; omega⟩
          · rw [← e6, pv_append, show A' ++ [x] ++ (W' ++ [t]) = A' ++ (x :: (W' ++ [t])) by simp, pv_append, pv_consN x, ← hwin, ← hTe, hSv, pv_consN d, hA']
            exact quot_step (by rw [hd]; exact Nat.mod_add_div T (pv b))
          · intro y hy
            rcases List.mem_cons.1 hy with rfl | hy
            · exact hd9
            · exact e8 y hy
        have NEXT := Lib.hid next
        have hjb : j + b.length ≤ a.length := by omega
        have hjn : j < n := by omega
        clear e0 e1 e2 e3 e4 e5 e6 e7 e8 e9 hA' hP9 hwin hrow hrow2 hrowq hrowb htk hgr next hkE HI hW' hx9 ht9 hT hTe hd
        go_wp2_with fail
        refine HTK.out.mono ?_
        rintro e w3 ⟨S, rfl, k1, k2, k3, k4, k5⟩
        have HN := NEXT.out S k1 k2 k3
        have hq3 := HQW.out.grown k5 hgqg
        have hcell := hq3.cellAt (i := j) (x := 0) (rep_at j Q)
        have hfree := hq3.free j
        have hq4 := hq3.set j d
        rw [rep_set] at hq4
        have hset := grown_set w3 gq j (.int .u64 (d : Int))
        have HK4 := Lib.hid (k4.grown hset (fun e => hgqg e.symm))
        have HK6 := Lib.hid ((HBW.out.grown k5 hgg).grown hset (fun e => hgq' e.symm))
        have HK5 := Lib.hid ((HGR.out.trans (grown_below k5 HG1.out.1 (by have := HG1.out.2; have := HGR.out.size; have := HG1.out.1; omega))).trans (grown_below hset hq3.lt.1 (by have := hq3.lt; omega)))
        have HK7 := Lib.hid hq4
        clear k1 k2 k3 k4 k5 hq3 hq4 hset
        go_wp2_with fail
        refine ⟨⟨(j : Int) - 1, j, z + 1, A', S, d :: Q, rfl, by omega, by omega, Lib.hid ⟨rfl, HN.out.2⟩, by rw [List.replicate_succ]; exact HK4.out, HK7.out, HK6.out, HK5.out⟩, ?_⟩
        clear NEXT HN HK4 HK5 HK6 HK7
        show ((j : Int) - 1 + 1).toNat < ((j : Int) + 1).toNat
        omega
      · obtain rfl : k = 0 := by omega
        obtain ⟨e0, e1, e2, e3, e4, e5, e6, e7, e8, e9⟩ := HI.out
        obtain rfl : A = [] := List.length_eq_zero_iff.1 e1
        rw [List.nil_append] at hrow e6
        have h9 : lt9 (Wd ++ List.replicate z 0) := by
          intro y hy
          rcases List.mem_append.1 hy with h | h
          · exact e4 y h
          · rw [(List.mem_replicate.1 h).2]; decide
        have hL : (Wd ++ List.replicate z 0).length = a.length + 1 := by simp; omega
        have hpc := Pcs.of_trim h9
        rw [Nat.pow_zero, Nat.one_mul] at e6
        have hmv : pv Wd = pv a % pv b ∧ pv Q = pv a / pv b := quot_end e5 e6
        rw [zeros_pv, hmv.1] at hpc
        have ht := trim_any B g1 cap1 _ wr hrow
        rw [hL] at ht
        have HTR := Lib.hid ht
        have htk := hrow.take (trimP (Wd ++ List.replicate z 0)).length (trimP_props _).2.2.2.1
        rw [← (trimP_props (Wd ++ List.replicate z 0)).2.2.2.2] at htk
        rw [List.replicate_zero, List.nil_append] at hrowq
        have HF := Lib.hid (show Pcs (trimP (Wd ++ List.replicate z 0)) (pv a % pv b) ∧ lt9 Q ∧ Q.length = n ∧ pv Q = pv a / pv b ∧ Row wr B g1 cap1 (trimP (Wd ++ List.replicate z 0)) ∧ Row wr B gq capq Q ∧ Below B w wr from
          ⟨hpc, e8, by omega, hmv.2, htk, hrowq, HBEL.out.trans hgr⟩)
        clear e0 e1 e2 e3 e4 e5 e6 e8 h9 hpc ht htk hrow hrowq hrowb hmv hgr hkE HI
        go_wp2_with fail
        refine HTR.out.mono ?_
        rintro e w3 ⟨rfl, rfl⟩
        go_wp2_with fail
        go_ret
        exact ⟨g1, cap1, _, Q, rfl, HF.out⟩

end Go.Proofs.YtdgbplppabalgaaGreatDoor

namespace Go.Proofs.YtdgbplppabalgaaGreatDoor
open Go.RowKit

/-- a value is a row of the call's own, or nil -/
def OwnP (w : World) (B : Nat) (v : Value) (p : List Nat) : Prop := (p = [] ∧ v = .slice none 0 0) ∨ ∃ g cap, v = .slice (some ⟨g, 0, none⟩) p.length cap ∧ Row w B g cap p
theorem OwnP.below {w w' : World} {B : Nat} {v : Value} {p : List Nat} (h : OwnP w B v p) (hb : Below w.heap.size w w') : OwnP w' B v p := by
  rcases h with h | ⟨g, cap, e, hr⟩
  · exact .inl h
  · exact .inr ⟨g, cap, e, hr.below hb⟩
theorem pv_two18 {b : List Nat} (h : lt9 b) (hl : b.length ≤ 2) : pv b < 1000000000000000000 := by
  have h1 := pv_lt b h
  have h2 : 1000000000 ^ b.length ≤ 1000000000 ^ 2 := Nat.pow_le_pow_right (by decide) hl
  omega

/-- what divide leaves -/
def DivPost (B x y : Nat) (w : World) (e : Ending) (w' : World) : Prop := ∃ (v1 v2 : Value) (q r : List Nat), e = .returned (.tuple #[v1, v2]) ∧ Pcs q (x / y) ∧ Pcs r (x % y) ∧ OwnP w' B v1 q ∧ OwnP w' B v2 r ∧ Below B w w'

set_option maxHeartbeats 1600000 in
set_option maxRecDepth 100000 in
theorem divide_short (B g cap g' cap' : Nat) (a b : List Nat) (x y : Nat) (w : World) (ha : Row w B g cap a) (hb : Row w B g' cap' b) (pa : Pcs a x) (pb : Pcs b y) (hla : a.length ≤ 200000) (hlb : b.length ≤ 2) (hy : 0 < y) (hB : B ≤ w.heap.size) :
    Calls Tryz.prog 181 #[.slice (some ⟨g, 0, none⟩) a.length cap, .slice (some ⟨g', 0, none⟩) b.length cap'] w (DivPost B x y w) := by
  have hlc := ha.len_cap
  have hlc' := hb.len_cap
  unfold maxLen at hlc hlc'
  have hpa := pa.val
  have hpb := pb.val
  have hb1 := pv_two18 pb.lt hlb
  have HS := Lib.hid (short_yes B g' cap' b w hb hlb pb.lt)
  have HD := Lib.hid (fun wx (hw : Below w.heap.size w wx) => divideShort_any B g cap a (pv b) wx (ha.below hw) pa.lt (by omega) (by omega) hla)
  have hm : x % y < y := Nat.mod_lt _ hy
  rw [hpa, hpb] at HD
  rw [hpb] at HS hb1
  obtain ⟨m, hme⟩ : ∃ m : Nat, m = x % y := ⟨_, rfl⟩
  rw [← hme] at HD hm
  have HM := Lib.hid hme
  have HBB := Lib.hid hB
  have HPB := Lib.hid pb
  clear ha hb pa pb hpa hpb hme hB
  go_enter Tryz.func181, Tryz.ntmps181
  go_wp2_with fail
  refine HS.out.mono ?_
  rintro e w1 ⟨rfl, hb1'⟩
  go_wp2_with fail
  refine (HD.out _ hb1').mono ?_
  rintro e w2 ⟨h, c, q, rfl, hq, hr, hb2⟩
  have hrt := Row.two w2 (m % 1000000000) (m / 1000000000)
  have e1 : ((m % 1000000000 : Nat) : Int) = (m : Int) % 1000000000 := by omega
  have e2 : ((m / 1000000000 : Nat) : Int) = (m : Int) / 1000000000 := by omega
  rw [e1, e2] at hrt
  have htr := trim_any w2.heap.size w2.heap.size 2 [m % 1000000000, m / 1000000000] _ hrt
  have h9r : lt9 [m % 1000000000, m / 1000000000] := by
    intro z hz; simp at hz; omega
  have hpr : pv [m % 1000000000, m / 1000000000] = m := by simp [pv]; omega
  have HT := Lib.hid htr
  have HRT := Lib.hid hrt
  have HQ := Lib.hid hq
  have HR := Lib.hid hr
  have H9R := Lib.hid h9r
  have HPR := Lib.hid hpr
  clear hq hr htr hrt e1 e2 h9r hpr
  go_wp2_with fail
  refine HT.out.mono ?_
  rintro e w3 ⟨rfl, rfl⟩
  go_wp2_with fail
  go_ret2
  have hbz : Below w2.heap.size w2 (w2.alloc (.cells #[.int .u64 ((m : Int) % 1000000000), .int .u64 ((m : Int) / 1000000000)] 135)) := (Below.refl _ _).alloc (Nat.le_refl _) _
  have hs2 : w.heap.size ≤ w2.heap.size := Nat.le_trans hb1'.size hb2.size
  refine ⟨_, _, q, trimP [m % 1000000000, m / 1000000000], rfl, HQ.out, ?_, .inr ⟨_, _, rfl, ((HR.out.mono (Nat.le_trans HBB.out hb1'.size)).below hbz)⟩, .inr ⟨_, _, rfl, ?_⟩, ((hb1'.trans (hb2.mono hb1'.size)).trans (hbz.mono hs2)).mono HBB.out⟩
  · have := Pcs.of_trim H9R.out
    rw [HPR.out] at this; rw [← HM.out]; exact this
  · have := HRT.out.take (trimP [m % 1000000000, m / 1000000000]).length (trimP_props _).2.2.2.1
    rw [← (trimP_props [m % 1000000000, m / 1000000000]).2.2.2.2] at this
    exact this.mono (Nat.le_trans HBB.out hs2)

set_option maxHeartbeats 800000 in
theorem divide_less (B g cap g' cap' : Nat) (a b : List Nat) (x y : Nat) (w : World) (ha : Row w B g cap a) (hb : Row w B g' cap' b) (pa : Pcs a x) (pb : Pcs b y) (hlb : 2 < b.length) (hab : a.length < b.length) (_hB : B ≤ w.heap.size) :
    Calls Tryz.prog 181 #[.slice (some ⟨g, 0, none⟩) a.length cap, .slice (some ⟨g', 0, none⟩) b.length cap'] w (DivPost B x y w) := by
  have hlc := ha.len_cap
  have hlc' := hb.len_cap
  unfold maxLen at hlc hlc'
  have hlt : x < y := by
    rw [← pa.val, ← pb.val]
    have h1 := top_big pb.top (by intro e; rw [e] at hab; simp at hab)
    have h3 := pv_lt a pa.lt
    have h4 : 1000000000 ^ a.length ≤ 1000000000 ^ (b.length - 1) := Nat.pow_le_pow_right (by decide) (by omega)
    omega
  have HS := Lib.hid (short_no B g' cap' b w hb hlb)
  have HA := Lib.hid ha
  have HP := Lib.hid pa
  have HL := Lib.hid hlt
  have hdl : decide (a.length < b.length) = true := decide_eq_true hab
  clear ha hb pa pb hlt
  go_enter Tryz.func181, Tryz.ntmps181
  go_wp2_with fail
  refine HS.out.mono ?_
  rintro e w1 ⟨rfl, rfl⟩
  go_wp2_with fail
  go_ret2
  refine ⟨_, _, [], a, rfl, ?_, ?_, .inl ⟨rfl, rfl⟩, .inr ⟨_, _, rfl, HA.out⟩, Below.refl _ _⟩
  · rw [Nat.div_eq_of_lt HL.out]; exact Pcs.nil
  · rw [Nat.mod_eq_of_lt HL.out]; exact HP.out

set_option maxHeartbeats 1600000 in
set_option maxRecDepth 100000 in
theorem divide_long (B g cap g' cap' : Nat) (a b : List Nat) (x y : Nat) (w : World) (ha : Row w B g cap a) (hb : Row w B g' cap' b) (hgg : g' ≠ g) (pa : Pcs a x) (pb : Pcs b y) (hla : a.length ≤ 200000) (hlb : 2 < b.length) (hab : b.length ≤ a.length) (hB : B ≤ w.heap.size) :
    Calls Tryz.prog 181 #[.slice (some ⟨g, 0, none⟩) a.length cap, .slice (some ⟨g', 0, none⟩) b.length cap'] w (DivPost B x y w) := by
  have hlc := ha.len_cap
  have hlc' := hb.len_cap
  unfold maxLen at hlc hlc'
  obtain ⟨i0, hi, hz0, hz1, hz2⟩ := info_parts info64
  have HS := Lib.hid (short_no B g' cap' b w hb hlb)
  have HA := Lib.hid ha
  have HBR := Lib.hid hb
  have HPA := Lib.hid pa
  have HPB := Lib.hid pb
  have HG := Lib.hid hgg
  have hdl : decide (a.length < b.length) = false := decide_eq_false (by omega)
  obtain ⟨n, hn⟩ : ∃ n : Nat, n = a.length - b.length + 1 := ⟨_, rfl⟩
  have hn1 : n + b.length = a.length + 1 := by omega
  have HN := Lib.hid hn1
  have hsum : (a.length : Int) - (b.length : Int) + 1 = (n : Int) := by omega
  have hnb : n ≤ 200001 := by omega
  have hwr : IntKind.i64.wrap ((a.length : Int) - (b.length : Int) + 1) = (n : Int) := by rw [IntWalk.i64_in _ (by omega)]; exact hsum
  clear ha hb pa pb hgg hn hn1
  go_enter Tryz.func181, Tryz.ntmps181
  go_wp2_with fail
  refine HS.out.mono ?_
  rintro e w1 ⟨rfl, rfl⟩
  go_wp2_with (at_make; refine wpList_make_full _ rfl _ _ 161 rfl w.heap.size 135 i0 (.int .u64 0) 1 Tryz.underlying161 hi hz0 hz1 .i64 .i64 _ _ n rfl rfl (by omega) (by omega) (by rw [hz2]; omega) (by unfold maxLen; omega) (Nat.le_refl _) ?_; intro w0 hown0 hgrow0)
  have hbel0 : Below w.heap.size w w0 := (Below.refl _ _).grown hgrow0 (Nat.le_refl _) (by intro k hk; cases hk)
  have hrow0 := Row.made hown0
  rw [show z0 n [] = List.replicate n 0 by simp [z0]] at hrow0
  have HR := Lib.hid (reduce_quot B g cap g' cap' w.heap.size n n a b w0 (HA.out.below hbel0) (HBR.out.below hbel0) (hrow0.mono hB) HG.out (by have := HA.out.lt; omega) (by have := HBR.out.lt; omega) HN.out hab (by omega) HPA.out.lt HPB.out.lt HPB.out.top hla (Nat.le_trans hB hbel0.size))
  have HB0 := Lib.hid hbel0
  clear hown0 hgrow0 hbel0 hrow0 hsum hwr
  go_wp2_with fail
  refine HR.out.mono ?_
  rintro e w2 ⟨g1, cap1, p, q, rfl, hp, hq9, hql, hqv, hrp, hrq, hb2⟩
  have htr := trim_any B w.heap.size n q w2 hrq
  rw [hql] at htr
  have HT := Lib.hid htr
  have hpc := Pcs.of_trim hq9
  rw [hqv, HPA.out.val, HPB.out.val] at hpc
  rw [HPA.out.val, HPB.out.val] at hp
  have htk := hrq.take (trimP q).length (trimP_props _).2.2.2.1
  rw [← (trimP_props q).2.2.2.2] at htk
  have HF := Lib.hid (show Pcs (trimP q) (x / y) ∧ Pcs p (x % y) ∧ Row w2 B w.heap.size n (trimP q) ∧ Row w2 B g1 cap1 p ∧ Below B w w2 from ⟨hpc, hp, htk, hrp, (HB0.out.mono hB).trans hb2⟩)
  clear hp hq9 hql hqv hrp hrq hb2 htr hpc htk
  go_wp2_with fail
  refine HT.out.mono ?_
  rintro e w3 ⟨rfl, rfl⟩
  go_wp2_with fail
  go_ret2
  exact ⟨_, _, trimP q, p, rfl, HF.out.1, HF.out.2.1, .inr ⟨_, _, rfl, HF.out.2.2.1⟩, .inr ⟨_, _, rfl, HF.out.2.2.2.1⟩, HF.out.2.2.2.2⟩

theorem divide_any (B g cap g' cap' : Nat) (a b : List Nat) (x y : Nat) (w : World) (ha : Row w B g cap a) (hb : Row w B g' cap' b) (hgg : g' ≠ g) (pa : Pcs a x) (pb : Pcs b y) (hla : a.length ≤ 200000) (hy : 0 < y) (hB : B ≤ w.heap.size) :
    Calls Tryz.prog 181 #[.slice (some ⟨g, 0, none⟩) a.length cap, .slice (some ⟨g', 0, none⟩) b.length cap'] w (DivPost B x y w) := by
  by_cases h2 : b.length ≤ 2
  · exact divide_short B g cap g' cap' a b x y w ha hb pa pb hla h2 hy hB
  · by_cases hab : a.length < b.length
    · exact divide_less B g cap g' cap' a b x y w ha hb pa pb (by omega) hab hB
    · exact divide_long B g cap g' cap' a b x y w ha hb hgg pa pb hla (by omega) (by omega) hB
end Go.Proofs.YtdgbplppabalgaaGreatDoor

namespace Go.Proofs.YtdgbplppabalgaaGreatDoor
open Go.RowKit

set_option maxRecDepth 100000 in
theorem known_divmod (w : World) (hs : Std w) :
    Calls Tryz.prog 147 #[.string ⟨#[49, 48, 48, 48, 48, 48, 48, 48, 48, 48, 48, 48, 48, 48, 48, 48, 48, 48, 48, 48, 48, 48]⟩, .string ⟨#[55]⟩] w fun e w' => e = .returned (.tuple #[.string ⟨#[49, 52, 50, 56, 53, 55, 49, 52, 50, 56, 53, 55, 49, 52, 50, 56, 53, 55, 49, 52, 50]⟩, .string ⟨#[54]⟩, .int .i64 0]) ∧ Below w.heap.size w w' := by
  have e1 : (⟨#[49, 48, 48, 48, 48, 48, 48, 48, 48, 48, 48, 48, 48, 48, 48, 48, 48, 48, 48, 48, 48, 48]⟩ : ByteArray) = str 1000000000000000000000 := str_eq _ (by decide +kernel) (by decide +kernel)
  have e2 : (⟨#[55]⟩ : ByteArray) = str 7 := str_eq _ (by decide +kernel) (by decide +kernel)
  have e3 : (⟨#[49, 52, 50, 56, 53, 55, 49, 52, 50, 56, 53, 55, 49, 52, 50, 56, 53, 55, 49, 52, 50]⟩ : ByteArray) = str (1000000000000000000000 / 7) := str_eq _ (by decide +kernel) (by decide +kernel)
  have e4 : (⟨#[54]⟩ : ByteArray) = str (1000000000000000000000 % 7) := str_eq _ (by decide +kernel) (by decide +kernel)
  rw [e1, e2, e3, e4]
  exact divmod_small 1000000000000000000000 7 w hs (Nat.le_trans (str_big (n := 22) (by decide) (by decide)) (by decide)) (by decide) (by decide) (by decide)

set_option maxRecDepth 100000 in
theorem known_small (w : World) (hs : Std w) :
    Calls Tryz.prog 157 #[.string ⟨#[49, 56, 52, 52, 54, 55, 52, 52, 48, 55, 51, 55, 48, 57, 53, 53, 49, 54, 49, 54]⟩] w fun e w' => e = .returned (.tuple #[.int .u64 0, .bool false]) ∧ Below w.heap.size w w' := by
  have e1 : (⟨#[49, 56, 52, 52, 54, 55, 52, 52, 48, 55, 51, 55, 48, 57, 53, 53, 49, 54, 49, 54]⟩ : ByteArray) = str 18446744073709551616 := str_eq _ (by decide +kernel) (by decide +kernel)
  rw [e1]
  exact small_no 18446744073709551616 (by decide) w hs




theorem known_007 (w : World) :
    Calls Tryz.prog 150 #[.string ⟨#[48, 48, 55]⟩] w fun e w' => e = .returned (.bool false) ∧ w = w' :=
  canonical_any ⟨#[48, 48, 55]⟩ w (by decide)

end Go.Proofs.YtdgbplppabalgaaGreatDoor

namespace Go.Proofs.YtdgbplppabalgaaGreatDoor
open Go.RowKit

theorem IsRow.len_bd {k : IntKind} {w : World} {a : Option Addr} {len cap : Nat} {zs : List Int} (h : IsRow k w a len cap zs) : len ≤ 9223372036854775807 := by
  rcases h with ⟨_, h, _⟩ | ⟨x, _, h2, h3, _⟩
  · omega
  · unfold maxLen at h3; omega
theorem size120 {n m : Nat} (h : n < 10 ^ (min m 120)) : (str n).size ≤ 120 :=
  str_big (Nat.lt_of_lt_of_le h (Nat.pow_le_pow_right (by decide) (Nat.min_le_right _ _))) (by decide)
theorem size_add {a b n m : Nat} (ha : (str a).size ≤ n) (hb : (str b).size ≤ m) : (str (a + b)).size ≤ n + m + 1 := by
  refine str_big ?_ (by omega)
  have h1 := lt_of_size ha
  have h2 := lt_of_size hb
  have h3 : 10 ^ n ≤ 10 ^ (n + m) := Nat.pow_le_pow_right (by decide) (by omega)
  have h4 : 10 ^ m ≤ 10 ^ (n + m) := Nat.pow_le_pow_right (by decide) (by omega)
  rw [Nat.pow_succ]; omega
theorem addTo {x y z : Nat} (h : x + y = z) (w : World) (hs : Std w) (hx : (str x).size ≤ 450000) (hy : (str y).size ≤ 450000) :
    Calls Tryz.prog 136 #[.string (str x), .string (str y)] w fun e w' => e = .returned (.string (str z)) ∧ Below w.heap.size w w' := by
  rw [← h]; exact addN_any x y w hs hx hy
theorem mulTo {x y z : Nat} (h : x * y = z) (w : World) (hs : Std w) (hx : (str x).size ≤ 450000) (hy : (str y).size ≤ 450000) :
    Calls Tryz.prog 140 #[.string (str x), .string (str y)] w fun e w' => e = .returned (.string (str z)) ∧ Below w.heap.size w w' := by
  rw [← h]; exact mul_any x y w hs hx hy
theorem subTo {x y z : Nat} (h : x = z + y) (w : World) (hs : Std w) (hx : (str x).size ≤ 450000) :
    Calls Tryz.prog 138 #[.string (str x), .string (str y)] w fun e w' => e = .returned (.tuple #[.string (str z), .int .i64 0]) ∧ Below w.heap.size w w' := by
  have := subN_yes x y w hs hx (by omega)
  rw [show x - y = z by omega] at this; exact this


end Go.Proofs.YtdgbplppabalgaaGreatDoor

namespace Go.Proofs.YtdgbplppabalgaaGreatDoor
open Go.RowKit

theorem take_le (l : List UInt8) (k : Nat) : val (l.take k) ≤ val l := by
  conv => rhs; rw [← List.take_append_drop k l]
  rw [val_append]
  have : val (l.take k) * 1 ≤ val (l.take k) * 10 ^ (l.drop k).length := Nat.mul_le_mul_left _ (Nat.pow_pos (by decide))
  omega
def maxU : ByteArray := ⟨#[49, 56, 52, 52, 54, 55, 52, 52, 48, 55, 51, 55, 48, 57, 53, 53, 49, 54, 49, 53]⟩
theorem maxU_eq : maxU = str 18446744073709551615 := str_eq _ (by decide +kernel) (by decide +kernel)



def zeros20 : Array Value := #[.int .u8 0, .int .u8 0, .int .u8 0, .int .u8 0, .int .u8 0, .int .u8 0, .int .u8 0, .int .u8 0, .int .u8 0, .int .u8 0, .int .u8 0, .int .u8 0, .int .u8 0, .int .u8 0, .int .u8 0, .int .u8 0, .int .u8 0, .int .u8 0, .int .u8 0, .int .u8 0]






theorem ld_dd {u j : Nat} (hu : u < 10 ^ (j + 1)) (h0 : j = 0 ∨ 0 < u / 10 ^ j) : ld u (j + 1) = Lib.decDigits u := by
  have hv : val (ld u (j + 1)) = u := by rw [ld_val, Nat.mod_eq_of_lt hu]
  have hd : u / 10 ^ j < 10 := by rw [Nat.div_lt_iff_lt_mul (Nat.pow_pos (by decide)), Nat.mul_comm, ← Nat.pow_succ]; exact hu
  have hc : canonL (ld u (j + 1)) = true := by
    unfold canonL
    rw [ld_all]
    rcases h0 with h0 | h0
    · subst h0
      have hu10 : u < 10 := by simpa using hu
      have e : ld u 1 = Lib.decDigits u := by
        rw [dd_small hu10]; simp [ld, Lib.dg, Nat.mod_eq_of_lt hu10]
      have := canon_dd u
      rw [← e] at this; unfold canonL at this
      simp only [Bool.and_eq_true] at this
      rw [this.1]; rfl
    · unfold headOk
      have hne : (Lib.dg u j == 48) = false := by
        rw [beq_eq_false_iff_ne]; intro e
        have := congrArg UInt8.toNat e
        rw [dg_nat, Nat.mod_eq_of_lt hd, show (48 : UInt8).toNat = 48 from rfl] at this; omega
      simp [ld, hne]
  rw [← dd_val hc, hv]

end Go.Proofs.YtdgbplppabalgaaGreatDoor

namespace Go.Proofs.YtdgbplppabalgaaGreatDoor
open Go.RowKit

theorem str_at (a q : Nat) (h : q < (str a).size) : ((str a)[q]'h) = Lib.dg a ((str a).size - 1 - q) := by
  rw [← at_list]
  simp only [str_list, Lib.decDigits_eq, List.getElem_map, List.getElem_range, str_size]


theorem drop_val {L : List UInt8} {k : Nat} (h : k < L.length) (h0 : L[k] = 48) : val (L.drop (k + 1)) = val (L.drop k) := by
  rw [List.drop_eq_getElem_cons h, h0, val_cons]; simp
theorem all_drop {L : List UInt8} (h : L.all isD = true) (k : Nat) : (L.drop k).all isD = true :=
  List.all_eq_true.2 fun x hx => List.all_eq_true.1 h x (List.mem_of_mem_drop hx)
theorem head_one (c : UInt8) : headOk [c] = true := by
  unfold headOk
  by_cases hc : c = 48
  · rw [hc]; rfl
  · simp
theorem head_cons {c : UInt8} {l : List UInt8} (hc : c ≠ 48) : headOk (c :: l) = true := by
  unfold headOk; simp [hc]
theorem drop_canon {L : List UInt8} {k : Nat} (h : L.all isD = true) (hk : k < L.length) (h0 : k + 1 = L.length ∨ L[k] ≠ 48) : canonL (L.drop k) = true := by
  unfold canonL
  rw [all_drop h k, List.drop_eq_getElem_cons hk]
  rcases h0 with h0 | h0
  · rw [List.drop_of_length_le (by omega), head_one]; rfl
  · rw [head_cons h0]; rfl


theorem mod_step (a k : Nat) : a % 10 ^ (k + 1) = a % 10 ^ k + 10 ^ k * (a / 10 ^ k % 10) := by rw [Nat.pow_succ, Nat.mod_mul]
theorem addR_step {S : List UInt8} {a b k c d : Nat} (hl : S.length = k) (h : val S + 10 ^ k * c = a % 10 ^ k + b % 10 ^ k) (hd : d = a / 10 ^ k % 10 + b / 10 ^ k % 10 + c) :
    val (UInt8.ofNat (48 + d % 10) :: S) + 10 ^ (k + 1) * (d / 10) = a % 10 ^ (k + 1) + b % 10 ^ (k + 1) := by
  have h1 : 10 ^ (k + 1) * (d / 10) + (d % 10) * 10 ^ k = 10 ^ k * d := by
    rw [Nat.pow_succ, Nat.mul_assoc, Nat.mul_comm (d % 10), ← Nat.mul_add, Nat.div_add_mod]
  have h2 : 10 ^ k * d = 10 ^ k * (a / 10 ^ k % 10) + 10 ^ k * (b / 10 ^ k % 10) + 10 ^ k * c := by rw [hd, Nat.mul_add, Nat.mul_add]
  rw [val_cons, ofNat_dig (Nat.mod_lt _ (by decide)), hl, mod_step, mod_step, show 48 + d % 10 - 48 = d % 10 by omega]
  omega
theorem all_cons' {S : List UInt8} {d : Nat} (h : S.all isD = true) (hd : d < 10) : (UInt8.ofNat (48 + d) :: S).all isD = true := by
  rw [List.all_cons, ofNat_isD hd, h]; rfl
theorem RowB.made {w : World} {B g n : Nat} (h : w.ownsRow B 5 1 (.slice (some ⟨g, 0, none⟩) n n) n (madeCells (Value.int .u8 0).cells (n * 1)).toList) : RowB w B g n n (dig0 n []) := by
  refine ⟨by rw [dig0_len]; simp, ?_⟩
  have e : c8 (dig0 n []) = (madeCells (Value.int .u8 0).cells (n * 1)).toList := by
    rw [show (Value.int .u8 0).cells = #[.int .u8 0] from rfl, toList_madeCells_one, Nat.mul_one]; simp [c8, dig0]
  rw [e]; exact h
theorem dig0_set' {N k : Nat} (S : List UInt8) (c : UInt8) (hk : k < N) : (dig0 (N - k) S).set (N - 1 - k) c = dig0 (N - (k + 1)) (c :: S) := by
  obtain ⟨q, hq⟩ : ∃ q, N = k + q + 1 := ⟨N - 1 - k, by omega⟩
  subst hq
  rw [show k + q + 1 - k = q + 1 by omega, show k + q + 1 - 1 - k = q by omega, show k + q + 1 - (k + 1) = q by omega, dig0_set]

end Go.Proofs.YtdgbplppabalgaaGreatDoor

namespace Go.Proofs.YtdgbplppabalgaaGreatDoor
open Go.RowKit

theorem minusR_step {S : List UInt8} {a b k c c' v : Nat} (hl : S.length = k) (hv9 : v < 10) (h : val S + b % 10 ^ k = a % 10 ^ k + 10 ^ k * c) (hv : v + b / 10 ^ k % 10 + c = a / 10 ^ k % 10 + 10 * c') :
    val (UInt8.ofNat (48 + v) :: S) + b % 10 ^ (k + 1) = a % 10 ^ (k + 1) + 10 ^ (k + 1) * c' := by
  have h1 : 10 ^ k * (v + b / 10 ^ k % 10 + c) = 10 ^ k * (a / 10 ^ k % 10 + 10 * c') := by rw [hv]
  have h2 : 10 ^ k * (v + b / 10 ^ k % 10 + c) = 10 ^ k * v + 10 ^ k * (b / 10 ^ k % 10) + 10 ^ k * c := by rw [Nat.mul_add, Nat.mul_add]
  have h3 : 10 ^ k * (a / 10 ^ k % 10 + 10 * c') = 10 ^ k * (a / 10 ^ k % 10) + 10 ^ (k + 1) * c' := by rw [Nat.mul_add, ← Nat.mul_assoc, ← Nat.pow_succ]
  rw [h2, h3] at h1
  rw [val_cons, ofNat_dig hv9, hl, mod_step, mod_step, show 48 + v - 48 = v by omega, Nat.mul_comm v]
  omega

end Go.Proofs.YtdgbplppabalgaaGreatDoor
