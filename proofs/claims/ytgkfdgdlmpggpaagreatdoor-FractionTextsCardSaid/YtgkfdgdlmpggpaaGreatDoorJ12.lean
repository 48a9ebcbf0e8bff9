/-
  Texts of one seat, joined: Reduce Quot.
-/
import Derived.Test.YtgkfdgdlmpggpaaGreatDoorJ11
import Derived.Maps.AppendAt
namespace Go.Proofs.YtgkfdgdlmpggpaaGreatDoor
open Go.RowKit

theorem pv_consN (x : Nat) (l : List Nat) : pv (x :: l) = x + 1000000000 * pv l := by
  simp [pv]
theorem top_big {b : List Nat} (h : Go.Proofs.YtgkfdgdlmpggpaaGreatDoor.top b) (h0 : b ≠ []) : 1000000000 ^ (b.length - 1) ≤ pv b := by
  rcases snoc_cases b with rfl | ⟨l, x, rfl⟩
  · exact absurd rfl h0
  · have hx : x ≠ 0 := by intro e; rw [e] at h; simp [Go.Proofs.YtgkfdgdlmpggpaaGreatDoor.top] at h
    rw [pv_snoc, List.length_append, List.length_singleton, Nat.add_sub_cancel]
    have : 1000000000 ^ l.length * 1 ≤ 1000000000 ^ l.length * x := Nat.mul_le_mul_left _ (by omega)
    omega
theorem zeros_pv (X : List Nat) (k : Nat) : pv (X ++ List.replicate k 0) = pv X := by rw [pv_append, pv_replicate]; simp

set_option maxHeartbeats 3200000 in
set_option maxRecDepth 100000 in
theorem reduce_nil (B g cap g' cap' : Nat) (a b : List Nat) (w : World) (ha : Row w B g cap a) (hb : Row w B g' cap' b) (hg : g' ≠ g) (hab : b.length ≤ a.length) (h2 : 2 ≤ b.length) (ha9 : lt9 a) (hb9 : lt9 b) (htop : Go.Proofs.YtgkfdgdlmpggpaaGreatDoor.top b) (hlen : a.length ≤ 200000) (hB : B ≤ w.heap.size) :
    Calls Tryz.prog 187 #[.slice (some ⟨g, 0, none⟩) a.length cap, .slice (some ⟨g', 0, none⟩) b.length cap', .slice none 0 0] w fun e w' => ∃ (g1 cap1 : Nat) (p : List Nat), e = .returned (.slice (some ⟨g1, 0, none⟩) p.length cap1) ∧ Pcs p (pv a % pv b) ∧ Row w' B g1 cap1 p ∧ Row w' B g' cap' b ∧ g1 ≠ g' ∧ Below B w w' := by
  obtain ⟨i0, hi, hz0, hz1, hz2⟩ := info_parts info64
  have hlca := ha.len_cap
  have hlcb := hb.len_cap
  unfold maxLen at hlca hlcb
  have HA := Lib.hid ha
  have HB := Lib.hid hb
  have hb0 : 0 < pv b := Nat.lt_of_lt_of_le (Nat.pow_pos (by decide)) (top_big htop (by intro e; rw [e] at h2; simp at h2))
  have HB9 := Lib.hid hb9
  have HA9 := Lib.hid ha9
  have HT := Lib.hid htop
  have HB0 := Lib.hid hb0
  have HGB := Lib.hid hb.lt
  have HGA := Lib.hid ha.lt
  clear ha hb ha9 hb9 htop hb0
  go_enter Tryz.func187, Tryz.ntmps187
  go_wp2_with (first
    | (at_builtin; refine wpList_append_own_at _ rfl _ _ 161 rfl B 135 i0 (.int .u64 0) 1 8 Tryz.underlying161 hi hz0 hz1 hz2 rfl (by decide) _ _ _ rfl (World.ownsRow.alloc HA.out _) ⟨w.heap.size, 0, none⟩ 1 1 [.int .u64 0] rfl rfl ?c1 ?c2 ?c3 ?c4 ?c5 ?_)
    | fail)
  case c1 =>
    intro j u hj
    match j, hj with
    | 0, hj => simp at hj; subst hj; simp [Addr.add]
  case c2 => intro u hu; simp at hu; subst hu; rfl
  case c3 => unfold maxLen; omega
  case c4 => omega
  case c5 => simp; omega
  · intro v' w2 hown' hgrow _ hblk
    obtain ⟨g1, cap1, rfl⟩ := own_some hown' (by omega)
    have hrow' : Row w2 B g1 cap1 (a ++ [0]) := Row.of hown' (by simp) (by rw [c64_append]; rfl)
    have hgg : g' ≠ g1 := by
      have h1 := HGB.out.2
      rcases hblk with h | h
      · simp [Value.ownBlock] at h; omega
      · simp [Value.ownBlock] at h; omega
    have hbel : Below B w w2 := (((Below.refl B w).alloc hB _).grown hgrow (by simp; omega) (by intro q hq; simp [Value.ownBlock] at hq; have := HGA.out; omega))
    have hrb : Row w2 B g' cap' b := World.ownsRow.kept (World.ownsRow.alloc HB.out _) hgrow (.inr (by simp [Value.ownBlock]; exact hg))
    have HROW := Lib.hid hrow'
    have HRB := Lib.hid hrb
    have HBEL := Lib.hid hbel
    have hl1 : (a ++ [0]).length = a.length + 1 := by simp
    have hlc1 := hrow'.len_cap
    unfold maxLen at hlc1
    rw [hl1] at hlc1
    have HG1 := Lib.hid hrow'.lt
    clear hown' hgrow hblk hrow' hrb hbel hl1
    go_wp2_with fail
    go_loopw [8, 9] (fun iv _ wr => ∃ (E : Int) (k z : Nat) (A Wd : List Nat), iv = .int .i64 E ∧ -1 ≤ E ∧ E ≤ a.length ∧ Hid (E = (k : Int) - 1 ∧ A.length = k ∧ Wd.length = b.length ∧ lt9 A ∧ lt9 Wd ∧ pv Wd < pv b ∧ pv (A ++ Wd) % pv b = pv a % pv b ∧ k + b.length + z = a.length + 1) ∧ Row wr B g1 cap1 (A ++ Wd ++ List.replicate z 0) ∧ w2.grownBy wr (some g1)) (fun iv _ _ => (intOf iv + 1).toNat)
    case atStart =>
      refine ⟨(a.length : Int) - (b.length : Int), a.length - b.length + 1, 0, a.take (a.length - b.length + 1), a.drop (a.length - b.length + 1) ++ [0], rfl, by omega, by omega, ?_, ?_, grown_refl _ _⟩
      · refine Lib.hid ⟨by omega, by rw [List.length_take]; omega, by simp; omega, lt9_take HA9.out _, lt9_snoc (lt9_drop HA9.out _) (by decide), ?_, ?_, by omega⟩
        · have h1 := zeros_pv (a.drop (a.length - b.length + 1)) 1
          rw [show [0] = List.replicate 1 0 from rfl, h1]
          have h3 := pv_lt _ (lt9_drop HA9.out (a.length - b.length + 1))
          have h4 := top_big HT.out (by intro e; rw [e] at h2; simp at h2)
          rw [List.length_drop, show a.length - (a.length - b.length + 1) = b.length - 1 by omega] at h3
          omega
        · rw [← List.append_assoc, List.take_append_drop, show [0] = List.replicate 1 0 from rfl, zeros_pv]
      · rw [← List.append_assoc, List.take_append_drop, List.replicate_zero, List.append_nil]; exact HROW.out
    case round =>
      obtain ⟨E, k, z, A, Wd, rfl, hE1, hE2, HI, hrow, hgr⟩ := hrel
      have hkE := HI.1
      by_cases hE : 0 ≤ E
      · obtain ⟨j, rfl⟩ : ∃ j : Nat, E = j := ⟨E.toNat, by omega⟩
        obtain rfl : k = j + 1 := by omega
        obtain ⟨e0, e1, e2, e3, e4, e5, e6, e7⟩ := HI.out
        rcases snoc_cases A with rfl | ⟨A', x, rfl⟩
        · simp at e1
        rcases snoc_cases Wd with rfl | ⟨W', t, rfl⟩
        · simp at e2; omega
        have hA' : A'.length = j := by simp at e1; exact e1
        have hW' : (x :: W').length = b.length := by simp at e2 ⊢; omega
        have hx9 : x < 1000000000 := e3 x (by simp)
        have ht9 : t < 1000000000 := e4 t (by simp)
        have hP9 : lt9 (x :: W') := by
          intro y hy
          rcases List.mem_cons.1 hy with rfl | hy
          · exact hx9
          · exact e4 y (by simp [hy])
        have hwin : pv (x :: W') + 1000000000 ^ b.length * t = x + 1000000000 * pv (W' ++ [t]) := by
          rw [← hW', ← pv_snoc, List.cons_append, pv_consN]
        have hrow2 : Row wr B g1 cap1 (A' ++ (x :: W') ++ t :: List.replicate z 0) := by
          have e : A' ++ [x] ++ (W' ++ [t]) ++ List.replicate z 0 = A' ++ (x :: W') ++ t :: List.replicate z 0 := by simp
          rw [← e]; exact hrow
        have htk := takeAway_any B g1 cap1 g' cap' A' (x :: W') (List.replicate z 0) b t wr hrow2 (HRB.out.grown hgr hgg) hgg hW' h2 hP9 ht9 HB9.out HT.out (by rw [hwin]; omega) (j + b.length + 1 - j) (by omega) (by omega)
        rw [hA'] at htk
        have HTK := Lib.hid htk
        have HGR := Lib.hid hgr
        have next : ∀ S : List Nat, S.length = b.length → lt9 S → pv S = (pv (x :: W') + 1000000000 ^ b.length * t) % pv b →
            Hid ((j : Int) - 1 = (j : Int) - 1 ∧ A'.length = j ∧ S.length = b.length ∧ lt9 A' ∧ lt9 S ∧ pv S < pv b ∧ pv (A' ++ S) % pv b = pv a % pv b ∧ j + b.length + (z + 1) = a.length + 1) := fun S hS hS9 hSv => by
          refine Lib.hid ⟨rfl, hA', hS, fun y hy => e3 y (by simp [hy]), hS9, by rw [hSv]; exact Nat.mod_lt _ HB0.out, ?_, by omega⟩
          rw [← e6, pv_append, show A' ++ [x] ++ (W' ++ [t]) = A' ++ (x :: (W' ++ [t])) by simp, pv_append, pv_consN, hSv, hwin]
          rw [Nat.add_mod, Nat.mul_mod, Nat.mod_mod, ← Nat.mul_mod, ← Nat.add_mod]
        have NEXT := Lib.hid next
        have hjb : j + b.length ≤ a.length := by omega
        clear e0 e1 e2 e3 e4 e5 e6 e7 hA' hP9 hwin hrow hrow2 htk hgr next hkE HI hW' hx9 ht9
        go_wp2_with fail
        refine HTK.out.mono ?_
        rintro e w3 ⟨S, rfl, k1, k2, k3, k4, k5⟩
        have HN := NEXT.out S k1 k2 k3
        have HK4 := Lib.hid k4
        have HK5 := Lib.hid (grown_trans HGR.out k5)
        clear k1 k2 k3 k4 k5
        go_wp2_with fail
        refine ⟨⟨(j : Int) - 1, j, z + 1, A', S, rfl, by omega, by omega, Lib.hid ⟨rfl, HN.out.2⟩, by rw [List.replicate_succ]; exact HK4.out, HK5.out⟩, ?_⟩
        clear NEXT HN HK4 HK5
        show ((j : Int) - 1 + 1).toNat < ((j : Int) + 1).toNat
        omega
      · obtain rfl : k = 0 := by omega
        obtain ⟨e0, e1, e2, e3, e4, e5, e6, e7⟩ := HI.out
        obtain rfl : A = [] := List.length_eq_zero_iff.1 e1
        rw [List.nil_append] at hrow e6
        have h9 : lt9 (Wd ++ List.replicate z 0) := by
          intro y hy
          rcases List.mem_append.1 hy with h | h
          · exact e4 y h
          · rw [(List.mem_replicate.1 h).2]; decide
        have hL : (Wd ++ List.replicate z 0).length = a.length + 1 := by simp; omega
        have hpc := Pcs.of_trim h9
        rw [zeros_pv, show pv Wd = pv a % pv b by rw [← e6]; exact (Nat.mod_eq_of_lt e5).symm] at hpc
        have ht := trim_any B g1 cap1 _ wr hrow
        rw [hL] at ht
        have HTR := Lib.hid ht
        have htk := hrow.take (trimP (Wd ++ List.replicate z 0)).length (trimP_props _).2.2.2.1
        rw [← (trimP_props (Wd ++ List.replicate z 0)).2.2.2.2] at htk
        have HF := Lib.hid (show Pcs (trimP (Wd ++ List.replicate z 0)) (pv a % pv b) ∧ Row wr B g1 cap1 (trimP (Wd ++ List.replicate z 0)) ∧ Row wr B g' cap' b ∧ g1 ≠ g' ∧ Below B w wr from
          ⟨hpc, htk, HRB.out.grown hgr hgg, fun e => hgg e.symm, HBEL.out.trans (grown_below hgr HG1.out.1 (by have := HG1.out; omega))⟩)
        clear e0 e1 e2 e3 e4 e5 e6 h9 hpc ht htk hrow hgr hkE HI
        go_wp2_with fail
        refine HTR.out.mono ?_
        rintro e w3 ⟨rfl, rfl⟩
        go_wp2_with fail
        go_ret
        exact ⟨g1, cap1, _, rfl, HF.out.1, HF.out.2.1, HF.out.2.2.1, HF.out.2.2.2.1, HF.out.2.2.2.2⟩

set_option maxHeartbeats 3200000 in
set_option maxRecDepth 100000 in
theorem reduce_less (B g cap g' cap' : Nat) (a b : List Nat) (w : World) (ha : Row w B g cap a) (hb : Row w B g' cap' b) (hg : g' ≠ g) (hab : a.length < b.length) (ha9 : lt9 a) (htop : Go.Proofs.YtgkfdgdlmpggpaaGreatDoor.top b) (hlen : a.length ≤ 200000) (hB : B ≤ w.heap.size) :
    Calls Tryz.prog 187 #[.slice (some ⟨g, 0, none⟩) a.length cap, .slice (some ⟨g', 0, none⟩) b.length cap', .slice none 0 0] w fun e w' => ∃ (g1 cap1 : Nat) (p : List Nat), e = .returned (.slice (some ⟨g1, 0, none⟩) p.length cap1) ∧ Pcs p (pv a % pv b) ∧ Row w' B g1 cap1 p ∧ Row w' B g' cap' b ∧ g1 ≠ g' ∧ Below B w w' := by
  obtain ⟨i0, hi, hz0, hz1, hz2⟩ := info_parts info64
  have hlca := ha.len_cap
  have hlcb := hb.len_cap
  unfold maxLen at hlca hlcb
  have HA := Lib.hid ha
  have HB := Lib.hid hb
  have hlt : pv a < pv b := by
    have h1 := top_big htop (by intro e; rw [e] at hab; simp at hab)
    have h3 := pv_lt a ha9
    have h4 : 1000000000 ^ a.length ≤ 1000000000 ^ (b.length - 1) := Nat.pow_le_pow_right (by decide) (by omega)
    omega
  have HA9 := Lib.hid ha9
  have HLT := Lib.hid hlt
  have HGB := Lib.hid hb.lt
  have HGA := Lib.hid ha.lt
  clear ha hb ha9 htop hlt
  go_enter Tryz.func187, Tryz.ntmps187
  go_wp2_with (first
    | (at_builtin; refine wpList_append_own_at _ rfl _ _ 161 rfl B 135 i0 (.int .u64 0) 1 8 Tryz.underlying161 hi hz0 hz1 hz2 rfl (by decide) _ _ _ rfl (World.ownsRow.alloc HA.out _) ⟨w.heap.size, 0, none⟩ 1 1 [.int .u64 0] rfl rfl ?c1 ?c2 ?c3 ?c4 ?c5 ?_)
    | fail)
  case c1 =>
    intro j u hj
    match j, hj with
    | 0, hj => simp at hj; subst hj; simp [Addr.add]
  case c2 => intro u hu; simp at hu; subst hu; rfl
  case c3 => unfold maxLen; omega
  case c4 => omega
  case c5 => simp; omega
  · intro v' w2 hown' hgrow _ hblk
    obtain ⟨g1, cap1, rfl⟩ := own_some hown' (by omega)
    have hrow' : Row w2 B g1 cap1 (a ++ [0]) := Row.of hown' (by simp) (by rw [c64_append]; rfl)
    have hgg : g' ≠ g1 := by
      have h1 := HGB.out.2
      rcases hblk with h | h
      · simp [Value.ownBlock] at h; omega
      · simp [Value.ownBlock] at h; omega
    have hbel : Below B w w2 := (((Below.refl B w).alloc hB _).grown hgrow (by simp; omega) (by intro q hq; simp [Value.ownBlock] at hq; have := HGA.out; omega))
    have hrb : Row w2 B g' cap' b := World.ownsRow.kept (World.ownsRow.alloc HB.out _) hgrow (.inr (by simp [Value.ownBlock]; exact hg))
    have HROW := Lib.hid hrow'
    have HRB := Lib.hid hrb
    have HBEL := Lib.hid hbel
    have hl1 : (a ++ [0]).length = a.length + 1 := by simp
    have hlc1 := hrow'.len_cap
    unfold maxLen at hlc1
    rw [hl1] at hlc1
    have HG1 := Lib.hid hrow'.lt
    clear hown' hgrow hblk hrow' hrb hbel hl1
    go_wp2_with fail
    go_loopw [8, 9] (fun iv _ wr => iv = .int .i64 ((a.length : Int) - (b.length : Int)) ∧ wr = w2) (fun _ _ _ => 0)
    case atStart => exact ⟨rfl, rfl⟩
    case round =>
      obtain ⟨rfl, hw⟩ := hrel
      obtain rfl := hw.symm
      clear hw
      have hneg : (a.length : Int) - (b.length : Int) < 0 := by omega
      have h9 : lt9 (a ++ [0]) := lt9_snoc HA9.out (by decide)
      have hpc := Pcs.of_trim h9
      have hz := zeros_pv a 1
      rw [show a ++ List.replicate 1 0 = a ++ [0] from rfl] at hz
      rw [hz, show pv a = pv a % pv b from (Nat.mod_eq_of_lt HLT.out).symm] at hpc
      have hrow := HROW.out
      have ht := trim_any B g1 cap1 _ w2 hrow
      have hl1 : (a ++ [0]).length = a.length + 1 := by simp
      rw [hl1] at ht
      have HTR := Lib.hid ht
      have htk := hrow.take (trimP (a ++ [0])).length (trimP_props _).2.2.2.1
      rw [← (trimP_props (a ++ [0])).2.2.2.2] at htk
      have HF := Lib.hid (show Pcs (trimP (a ++ [0])) (pv a % pv b) ∧ Row w2 B g1 cap1 (trimP (a ++ [0])) ∧ Row w2 B g' cap' b ∧ g1 ≠ g' ∧ Below B w w2 from
        ⟨hpc, htk, HRB.out, fun e => hgg e.symm, HBEL.out⟩)
      clear h9 hpc hz hrow ht htk hl1
      go_wp2_with fail
      refine HTR.out.mono ?_
      rintro e w3 ⟨rfl, rfl⟩
      go_wp2_with fail
      go_ret
      exact ⟨g1, cap1, _, rfl, HF.out.1, HF.out.2.1, HF.out.2.2.1, HF.out.2.2.2.1, HF.out.2.2.2.2⟩
end Go.Proofs.YtgkfdgdlmpggpaaGreatDoor

namespace Go.Proofs.YtgkfdgdlmpggpaaGreatDoor
open Go.RowKit

theorem rep_at (j : Nat) (Q : List Nat) : ∃ h : j < (List.replicate (j + 1) 0 ++ Q).length, (List.replicate (j + 1) 0 ++ Q)[j]'h = 0 :=
  ⟨by simp; omega, by rw [List.getElem_append_left (by simp)]; simp⟩
theorem rep_set (j d : Nat) (Q : List Nat) : (List.replicate (j + 1) 0 ++ Q).set j d = List.replicate j 0 ++ d :: Q := by
  rw [List.replicate_succ', List.append_assoc, List.set_append_right _ _ (by simp)]; simp
theorem quot_step {P b m T d s j : Nat} (h : s + b * d = T) : P + 1000000000 ^ j * s + b * (1000000000 ^ j * (d + 1000000000 * m)) = P + 1000000000 ^ j * T + b * (1000000000 ^ (j + 1) * m) := by
  subst h
  obtain ⟨u, hu⟩ : ∃ u, u = 1000000000 ^ j := ⟨_, rfl⟩
  rw [Nat.pow_succ, ← hu]
  simp only [Nat.mul_add]
  have e1 : b * (u * d) = u * (b * d) := by rw [Nat.mul_left_comm]
  have e2 : b * (u * (1000000000 * m)) = b * (u * 1000000000 * m) := by rw [Nat.mul_assoc u]
  rw [e1, e2]
  omega
theorem quot_end {s b q a : Nat} (hs : s < b) (h : s + b * q = a) : s = a % b ∧ q = a / b := by
  subst h
  exact ⟨by rw [Nat.add_mul_mod_self_left, Nat.mod_eq_of_lt hs], by rw [Nat.add_mul_div_left _ _ (by omega), Nat.div_eq_of_lt hs, Nat.zero_add]⟩

set_option maxHeartbeats 3200000 in
set_option maxRecDepth 100000 in
theorem reduce_quot (B g cap g' cap' gq capq n : Nat) (a b : List Nat) (w : World) (ha : Row w B g cap a) (hb : Row w B g' cap' b) (hq : Row w B gq capq (List.replicate n 0)) (hg : g' ≠ g) (hgq : gq ≠ g) (hgq' : gq ≠ g') (hn : n + b.length = a.length + 1) (hab : b.length ≤ a.length) (h2 : 2 ≤ b.length) (ha9 : lt9 a) (hb9 : lt9 b) (htop : Go.Proofs.YtgkfdgdlmpggpaaGreatDoor.top b) (hlen : a.length ≤ 200000) (hB : B ≤ w.heap.size) :
    Calls Tryz.prog 187 #[.slice (some ⟨g, 0, none⟩) a.length cap, .slice (some ⟨g', 0, none⟩) b.length cap', .slice (some ⟨gq, 0, none⟩) n capq] w fun e w' => ∃ (g1 cap1 : Nat) (p q : List Nat), e = .returned (.slice (some ⟨g1, 0, none⟩) p.length cap1) ∧ Pcs p (pv a % pv b) ∧ lt9 q ∧ q.length = n ∧ pv q = pv a / pv b ∧ Row w' B g1 cap1 p ∧ Row w' B gq capq q ∧ Below B w w' := by
  obtain ⟨i0, hi, hz0, hz1, hz2⟩ := info_parts info64
  have hlca := ha.len_cap
  have hlcb := hb.len_cap
  unfold maxLen at hlca hlcb
  have hlcq := hq.len_cap
  unfold maxLen at hlcq
  rw [List.length_replicate] at hlcq
  have HQ := Lib.hid hq
  have HGQ := Lib.hid hq.lt
  have HA := Lib.hid ha
  have HB := Lib.hid hb
  have hb0 : 0 < pv b := Nat.lt_of_lt_of_le (Nat.pow_pos (by decide)) (top_big htop (by intro e; rw [e] at h2; simp at h2))
  have HB9 := Lib.hid hb9
  have HA9 := Lib.hid ha9
  have HT := Lib.hid htop
  have HB0 := Lib.hid hb0
  have HGB := Lib.hid hb.lt
  have HGA := Lib.hid ha.lt
  clear ha hb hq ha9 hb9 htop hb0
  go_enter Tryz.func187, Tryz.ntmps187
  go_wp2_with (first
    | (at_builtin; refine wpList_append_own_at _ rfl _ _ 161 rfl B 135 i0 (.int .u64 0) 1 8 Tryz.underlying161 hi hz0 hz1 hz2 rfl (by decide) _ _ _ rfl (World.ownsRow.alloc HA.out _) ⟨w.heap.size, 0, none⟩ 1 1 [.int .u64 0] rfl rfl ?c1 ?c2 ?c3 ?c4 ?c5 ?_)
    | fail)
  case c1 =>
    intro j u hj
    match j, hj with
    | 0, hj => simp at hj; subst hj; simp [Addr.add]
  case c2 => intro u hu; simp at hu; subst hu; rfl
  case c3 => unfold maxLen; omega
  case c4 => omega
  case c5 => simp; omega
  · intro v' w2 hown' hgrow _ hblk
    obtain ⟨g1, cap1, rfl⟩ := own_some hown' (by omega)
    have hrow' : Row w2 B g1 cap1 (a ++ [0]) := Row.of hown' (by simp) (by rw [c64_append]; rfl)
    have hgg : g' ≠ g1 := by
      have h1 := HGB.out.2
      rcases hblk with h | h
      · simp [Value.ownBlock] at h; omega
      · simp [Value.ownBlock] at h; omega
    have hgqg : gq ≠ g1 := by
      have h1 := HGQ.out.2
      rcases hblk with h | h
      · simp [Value.ownBlock] at h; omega
      · simp [Value.ownBlock] at h; omega
    have hrq : Row w2 B gq capq (List.replicate n 0) := World.ownsRow.kept (World.ownsRow.alloc HQ.out _) hgrow (.inr (by simp [Value.ownBlock]; exact hgq))
    have HRQ := Lib.hid hrq
    have hbel : Below B w w2 := (((Below.refl B w).alloc hB _).grown hgrow (by simp; omega) (by intro q hq; simp [Value.ownBlock] at hq; have := HGA.out; omega))
    have hrb : Row w2 B g' cap' b := World.ownsRow.kept (World.ownsRow.alloc HB.out _) hgrow (.inr (by simp [Value.ownBlock]; exact hg))
    have HROW := Lib.hid hrow'
    have HRB := Lib.hid hrb
    have HBEL := Lib.hid hbel
    have hl1 : (a ++ [0]).length = a.length + 1 := by simp
    have hlc1 := hrow'.len_cap
    unfold maxLen at hlc1
    rw [hl1] at hlc1
    have HG1 := Lib.hid hrow'.lt
    clear hown' hgrow hblk hrow' hrb hrq hbel hl1
    go_wp2_with fail
    go_loopw [8, 9] (fun iv _ wr => ∃ (E : Int) (k z : Nat) (A Wd Q : List Nat), iv = .int .i64 E ∧ -1 ≤ E ∧ E ≤ a.length ∧ Hid (E = (k : Int) - 1 ∧ A.length = k ∧ Wd.length = b.length ∧ lt9 A ∧ lt9 Wd ∧ pv Wd < pv b ∧ pv (A ++ Wd) + pv b * (1000000000 ^ k * pv Q) = pv a ∧ k + b.length + z = a.length + 1 ∧ lt9 Q ∧ k + Q.length = n) ∧ Row wr B g1 cap1 (A ++ Wd ++ List.replicate z 0) ∧ Row wr B gq capq (List.replicate k 0 ++ Q) ∧ Row wr B g' cap' b ∧ Below B w2 wr) (fun iv _ _ => (intOf iv + 1).toNat)
    case atStart =>
      refine ⟨(a.length : Int) - (b.length : Int), a.length - b.length + 1, 0, a.take (a.length - b.length + 1), a.drop (a.length - b.length + 1) ++ [0], [], rfl, by omega, by omega, ?_, ?_, ?_, HRB.out, Below.refl _ _⟩
      · refine Lib.hid ⟨by omega, by rw [List.length_take]; omega, by simp; omega, lt9_take HA9.out _, lt9_snoc (lt9_drop HA9.out _) (by decide), ?_, ?_, by omega, by simp [lt9], by simp; omega⟩
        · have h1 := zeros_pv (a.drop (a.length - b.length + 1)) 1
          rw [show [0] = List.replicate 1 0 from rfl, h1]
          have h3 := pv_lt _ (lt9_drop HA9.out (a.length - b.length + 1))
          have h4 := top_big HT.out (by intro e; rw [e] at h2; simp at h2)
          rw [List.length_drop, show a.length - (a.length - b.length + 1) = b.length - 1 by omega] at h3
          omega
        · rw [← List.append_assoc, List.take_append_drop, show [0] = List.replicate 1 0 from rfl, zeros_pv, show pv [] = 0 from rfl, Nat.mul_zero, Nat.mul_zero, Nat.add_zero]
      · rw [← List.append_assoc, List.take_append_drop, List.replicate_zero, List.append_nil]; exact HROW.out
      · rw [show a.length - b.length + 1 = n by omega, List.append_nil]; exact HRQ.out
    case round =>
      obtain ⟨E, k, z, A, Wd, Q, rfl, hE1, hE2, HI, hrow, hrowq, hrowb, hgr⟩ := hrel
      have hkE := HI.1
      by_cases hE : 0 ≤ E
      · obtain ⟨j, rfl⟩ : ∃ j : Nat, E = j := ⟨E.toNat, by omega⟩
        obtain rfl : k = j + 1 := by omega
        obtain ⟨e0, e1, e2, e3, e4, e5, e6, e7, e8, e9⟩ := HI.out
        rcases snoc_cases A with rfl | ⟨A', x, rfl⟩
        · simp at e1
        rcases snoc_cases Wd with rfl | ⟨W', t, rfl⟩
        · simp at e2; omega
        have hA' : A'.length = j := by simp at e1; exact e1
        have hW' : (x :: W').length = b.length := by simp at e2 ⊢; omega
        have hx9 : x < 1000000000 := e3 x (by simp)
        have ht9 : t < 1000000000 := e4 t (by simp)
        have hP9 : lt9 (x :: W') := by
          intro y hy
          rcases List.mem_cons.1 hy with rfl | hy
          · exact hx9
          · exact e4 y (by simp [hy])
        have hwin : pv (x :: W') + 1000000000 ^ b.length * t = x + 1000000000 * pv (W' ++ [t]) := by
          rw [← hW', ← pv_snoc, List.cons_append, pv_consN]
        have hrow2 : Row wr B g1 cap1 (A' ++ (x :: W') ++ t :: List.replicate z 0) := by
          have e : A' ++ [x] ++ (W' ++ [t]) ++ List.replicate z 0 = A' ++ (x :: W') ++ t :: List.replicate z 0 := by simp
          rw [← e]; exact hrow
        have htk := takeAway_any B g1 cap1 g' cap' A' (x :: W') (List.replicate z 0) b t wr hrow2 hrowb hgg hW' h2 hP9 ht9 HB9.out HT.out (by rw [hwin]; omega) (j + b.length + 1 - j) (by omega) (by omega)
        rw [hA'] at htk
        have HTK := Lib.hid htk
        have HGR := Lib.hid hgr
        have HQW := Lib.hid hrowq
        have HBW := Lib.hid hrowb
        have hT : pv (x :: W') + 1000000000 ^ b.length * t < pv b * 1000000000 := by rw [hwin]; omega
        obtain ⟨T, hTe⟩ : ∃ T, T = pv (x :: W') + 1000000000 ^ b.length * t := ⟨_, rfl⟩
        have hd9 : T / pv b < 1000000000 := by rw [Nat.div_lt_iff_lt_mul HB0.out, Nat.mul_comm, hTe]; exact hT
        rw [← hTe] at hT HTK
        obtain ⟨d, hd⟩ : ∃ d, d = T / pv b := ⟨_, rfl⟩
        rw [← hd] at hd9 HTK
        have next : ∀ S : List Nat, S.length = b.length → lt9 S → pv S = T % pv b →
            Hid ((j : Int) - 1 = (j : Int) - 1 ∧ A'.length = j ∧ S.length = b.length ∧ lt9 A' ∧ lt9 S ∧ pv S < pv b ∧ pv (A' ++ S) + pv b * (1000000000 ^ j * pv (d :: Q)) = pv a ∧ j + b.length + (z + 1) = a.length + 1 ∧ lt9 (d :: Q) ∧ j + (d :: Q).length = n) := fun S hS hS9 hSv => by
          refine Lib.hid ⟨rfl, hA', hS, fun y hy => e3 y (by simp [hy]), hS9, by rw [hSv]; exact Nat.mod_lt _ HB0.out, ?_, by omega, ?_, by simp; omega⟩
          · rw [← e6, pv_append, show A' ++ [x] ++ (W' ++ [t]) = A' ++ (x :: (W' ++ [t])) by simp, pv_append, pv_consN x, ← hwin, ← hTe, hSv, pv_consN d, hA']
            exact quot_step (by rw [hd]; exact Nat.mod_add_div T (pv b))
          · intro y hy
            rcases List.mem_cons.1 hy with rfl | hy
            · exact hd9
            · exact e8 y hy
        have NEXT := Lib.hid next
        have hjb : j + b.length ≤ a.length := by omega
        have hjn : j < n := by omega
        clear e0 e1 e2 e3 e4 e5 e6 e7 e8 e9 hA' hP9 hwin hrow hrow2 hrowq hrowb htk hgr next hkE HI hW' hx9 ht9 hT hTe hd
        go_wp2_with fail
        refine HTK.out.mono ?_
        rintro e w3 ⟨S, rfl, k1, k2, k3, k4, k5⟩
        have HN := NEXT.out S k1 k2 k3
        have hq3 := HQW.out.grown k5 hgqg
        have hcell := hq3.cellAt (i := j) (x := 0) (rep_at j Q)
        have hfree := hq3.free j
        have hq4 := hq3.set j d
        rw [rep_set] at hq4
        have hset := grown_set w3 gq j (.int .u64 (d : Int))
        have HK4 := Lib.hid (k4.grown hset (fun e => hgqg e.symm))
        have HK6 := Lib.hid ((HBW.out.grown k5 hgg).grown hset (fun e => hgq' e.symm))
        have HK5 := Lib.hid ((HGR.out.trans (grown_below k5 HG1.out.1 (by have := HG1.out.2; have := HGR.out.size; have := HG1.out.1; omega))).trans (grown_below hset hq3.lt.1 (by have := hq3.lt; omega)))
        have HK7 := Lib.hid hq4
        clear k1 k2 k3 k4 k5 hq3 hq4 hset
        go_wp2_with fail
        refine ⟨⟨(j : Int) - 1, j, z + 1, A', S, d :: Q, rfl, by omega, by omega, Lib.hid ⟨rfl, HN.out.2⟩, by rw [List.replicate_succ]; exact HK4.out, HK7.out, HK6.out, HK5.out⟩, ?_⟩
        clear NEXT HN HK4 HK5 HK6 HK7
        show ((j : Int) - 1 + 1).toNat < ((j : Int) + 1).toNat
        omega
      · obtain rfl : k = 0 := by omega
        obtain ⟨e0, e1, e2, e3, e4, e5, e6, e7, e8, e9⟩ := HI.out
        obtain rfl : A = [] := List.length_eq_zero_iff.1 e1
        rw [List.nil_append] at hrow e6
        have h9 : lt9 (Wd ++ List.replicate z 0) := by
          intro y hy
          rcases List.mem_append.1 hy with h | h
          · exact e4 y h
          · rw [(List.mem_replicate.1 h).2]; decide
        have hL : (Wd ++ List.replicate z 0).length = a.length + 1 := by simp; omega
        have hpc := Pcs.of_trim h9
        rw [Nat.pow_zero, Nat.one_mul] at e6
        have hmv : pv Wd = pv a % pv b ∧ pv Q = pv a / pv b := quot_end e5 e6
        rw [zeros_pv, hmv.1] at hpc
        have ht := trim_any B g1 cap1 _ wr hrow
        rw [hL] at ht
        have HTR := Lib.hid ht
        have htk := hrow.take (trimP (Wd ++ List.replicate z 0)).length (trimP_props _).2.2.2.1
        rw [← (trimP_props (Wd ++ List.replicate z 0)).2.2.2.2] at htk
        rw [List.replicate_zero, List.nil_append] at hrowq
        have HF := Lib.hid (show Pcs (trimP (Wd ++ List.replicate z 0)) (pv a % pv b) ∧ lt9 Q ∧ Q.length = n ∧ pv Q = pv a / pv b ∧ Row wr B g1 cap1 (trimP (Wd ++ List.replicate z 0)) ∧ Row wr B gq capq Q ∧ Below B w wr from
          ⟨hpc, e8, by omega, hmv.2, htk, hrowq, HBEL.out.trans hgr⟩)
        clear e0 e1 e2 e3 e4 e5 e6 e8 h9 hpc ht htk hrow hrowq hrowb hmv hgr hkE HI
        go_wp2_with fail
        refine HTR.out.mono ?_
        rintro e w3 ⟨rfl, rfl⟩
        go_wp2_with fail
        go_ret
        exact ⟨g1, cap1, _, Q, rfl, HF.out⟩

end Go.Proofs.YtgkfdgdlmpggpaaGreatDoor
