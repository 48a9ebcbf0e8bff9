/-
  reduce.
-/
import Derived.Test.YtfhmdlpjeiockaaDoorAway
import Derived.Maps.AppendAt
namespace Go.Proofs.YtfhmdlpjeiockaaDoor
open Go.RowKit

theorem pv_consN (x : Nat) (l : List Nat) : pv (x :: l) = x + 1000000000 * pv l := by
  simp [pv]
theorem top_big {b : List Nat} (h : Go.Proofs.YtfhmdlpjeiockaaDoor.top b) (h0 : b ≠ []) : 1000000000 ^ (b.length - 1) ≤ pv b := by
  rcases snoc_cases b with rfl | ⟨l, x, rfl⟩
  · exact absurd rfl h0
  · have hx : x ≠ 0 := by intro e; rw [e] at h; simp [Go.Proofs.YtfhmdlpjeiockaaDoor.top] at h
    rw [pv_snoc, List.length_append, List.length_singleton, Nat.add_sub_cancel]
    have : 1000000000 ^ l.length * 1 ≤ 1000000000 ^ l.length * x := Nat.mul_le_mul_left _ (by omega)
    omega
theorem zeros_pv (X : List Nat) (k : Nat) : pv (X ++ List.replicate k 0) = pv X := by rw [pv_append, pv_replicate]; simp

set_option maxHeartbeats 3200000 in
set_option maxRecDepth 100000 in
theorem reduce_nil (B g cap g' cap' : Nat) (a b : List Nat) (w : World) (ha : Row w B g cap a) (hb : Row w B g' cap' b) (hg : g' ≠ g) (hab : b.length ≤ a.length) (h2 : 2 ≤ b.length) (ha9 : lt9 a) (hb9 : lt9 b) (htop : Go.Proofs.YtfhmdlpjeiockaaDoor.top b) (hlen : a.length ≤ 200000) (hB : B ≤ w.heap.size) :
    Calls Tryd.prog 46 #[.slice (some ⟨g, 0, none⟩) a.length cap, .slice (some ⟨g', 0, none⟩) b.length cap', .slice none 0 0] w fun e w' => ∃ (g1 cap1 : Nat) (p : List Nat), e = .returned (.slice (some ⟨g1, 0, none⟩) p.length cap1) ∧ Pcs p (pv a % pv b) ∧ Row w' B g1 cap1 p ∧ Row w' B g' cap' b ∧ g1 ≠ g' ∧ Below B w w' := by
  obtain ⟨i0, hi, hz0, hz1, hz2⟩ := info_parts info64
  have hlca := ha.len_cap
  have hlcb := hb.len_cap
  unfold maxLen at hlca hlcb
  have HA := Lib.hid ha
  have HB := Lib.hid hb
  have hb0 : 0 < pv b := Nat.lt_of_lt_of_le (Nat.pow_pos (by decide)) (top_big htop (by intro e; rw [e] at h2; simp at h2))
  have HB9 := Lib.hid hb9
  have HA9 := Lib.hid ha9
  have HT := Lib.hid htop
  have HB0 := Lib.hid hb0
  have HGB := Lib.hid hb.lt
  have HGA := Lib.hid ha.lt
  clear ha hb ha9 hb9 htop hb0
  go_enter Tryd.func46, Tryd.ntmps46
  go_wp2_with (first
    | (at_builtin; refine wpList_append_own_at _ rfl _ _ 47 rfl B 37 i0 (.int .u64 0) 1 8 Tryd.underlying47 hi hz0 hz1 hz2 rfl (by decide) _ _ _ rfl (World.ownsRow.alloc HA.out _) ⟨w.heap.size, 0, none⟩ 1 1 [.int .u64 0] rfl rfl ?c1 ?c2 ?c3 ?c4 ?c5 ?_)
    | fail)
  case c1 =>
    intro j u hj
    match j, hj with
    | 0, hj => simp at hj; subst hj; simp [Addr.add]
  case c2 => intro u hu; simp at hu; subst hu; rfl
  case c3 => unfold maxLen; omega
  case c4 => omega
  case c5 => simp; omega
  · intro v' w2 hown' hgrow _ hblk
    obtain ⟨g1, cap1, rfl⟩ := own_some hown' (by omega)
    have hrow' : Row w2 B g1 cap1 (a ++ [0]) := Row.of hown' (by simp) (by rw [c64_append]; rfl)
    have hgg : g' ≠ g1 := by
      have h1 := HGB.out.2
      rcases hblk with h | h
      · simp [Value.ownBlock] at h; omega
      · simp [Value.ownBlock] at h; omega
    have hbel : Below B w w2 := (((Below.refl B w).alloc hB _).grown hgrow (by simp; omega) (by intro q hq; simp [Value.ownBlock] at hq; have := HGA.out; omega))
    have hrb : Row w2 B g' cap' b := World.ownsRow.kept (World.ownsRow.alloc HB.out _) hgrow (.inr (by simp [Value.ownBlock]; exact hg))
    have HROW := Lib.hid hrow'
    have HRB := Lib.hid hrb
    have HBEL := Lib.hid hbel
    have hl1 : (a ++ [0]).length = a.length + 1 := by simp
    have hlc1 := hrow'.len_cap
    unfold maxLen at hlc1
    rw [hl1] at hlc1
    have HG1 := Lib.hid hrow'.lt
    clear hown' hgrow hblk hrow' hrb hbel hl1
    go_wp2_with fail
    go_loopw [8, 9] (fun iv _ wr => ∃ (E : Int) (k z : Nat) (A Wd : List Nat), iv = .int .i64 E ∧ -1 ≤ E ∧ E ≤ a.length ∧ Hid (E = (k : Int) - 1 ∧ A.length = k ∧ Wd.length = b.length ∧ lt9 A ∧ lt9 Wd ∧ pv Wd < pv b ∧ pv (A ++ Wd) % pv b = pv a % pv b ∧ k + b.length + z = a.length + 1) ∧ Row wr B g1 cap1 (A ++ Wd ++ List.replicate z 0) ∧ w2.grownBy wr (some g1)) (fun iv _ _ => (intOf iv + 1).toNat)
    case atStart =>
      refine ⟨(a.length : Int) - (b.length : Int), a.length - b.length + 1, 0, a.take (a.length - b.length + 1), a.drop (a.length - b.length + 1) ++ [0], rfl, by omega, by omega, ?_, ?_, grown_refl _ _⟩
      · refine Lib.hid ⟨by omega, by rw [List.length_take]; omega, by simp; omega, lt9_take HA9.out _, lt9_snoc (lt9_drop HA9.out _) (by decide), ?_, ?_, by omega⟩
        · have h1 := zeros_pv (a.drop (a.length - b.length + 1)) 1
          rw [show [0] = List.replicate 1 0 from rfl, h1]
          have h3 := pv_lt _ (lt9_drop HA9.out (a.length - b.length + 1))
          have h4 := top_big HT.out (by intro e; rw [e] at h2; simp at h2)
          rw [List.length_drop, show a.length - (a.length - b.length + 1) = b.length - 1 by omega] at h3
          omega
        · rw [← List.append_assoc, List.take_append_drop, show [0] = List.replicate 1 0 from rfl, zeros_pv]
      · rw [← List.append_assoc, List.take_append_drop, List.replicate_zero, List.append_nil]; exact HROW.out
    case round =>
      obtain ⟨E, k, z, A, Wd, rfl, hE1, hE2, HI, hrow, hgr⟩ := hrel
      have hkE := HI.1
      by_cases hE : 0 ≤ E
      · obtain ⟨j, rfl⟩ : ∃ j : Nat, E = j := ⟨E.toNat, by omega⟩
        obtain rfl : k = j + 1 := by omega
        obtain ⟨e0, e1, e2, e3, e4, e5, e6, e7⟩ := HI.out
        rcases snoc_cases A with rfl | ⟨A', x, rfl⟩
        · simp at e1
        rcases snoc_cases Wd with rfl | ⟨W', t, rfl⟩
        · simp at e2; omega
        have hA' : A'.length = j := by simp at e1; exact e1
        have hW' : (x :: W').length = b.length := by simp at e2 ⊢; omega
        have hx9 : x < 1000000000 := e3 x (by simp)
        have ht9 : t < 1000000000 := e4 t (by simp)
        have hP9 : lt9 (x :: W') := by
          intro y hy
          rcases List.mem_cons.1 hy with rfl | hy
          · exact hx9
          · exact e4 y (by simp [hy])
        have hwin : pv (x :: W') + 1000000000 ^ b.length * t = x + 1000000000 * pv (W' ++ [t]) := by
          rw [← hW', ← pv_snoc, List.cons_append, pv_consN]
        have hrow2 : Row wr B g1 cap1 (A' ++ (x :: W') ++ t :: List.replicate z 0) := by
          have e : A' ++ [x] ++ (W' ++ [t]) ++ List.replicate z 0 = A' ++ (x :: W') ++ t :: List.replicate z 0 := by simp
          rw [← e]; exact hrow
        have htk := takeAway_any B g1 cap1 g' cap' A' (x :: W') (List.replicate z 0) b t wr hrow2 (HRB.out.grown hgr hgg) hgg hW' h2 hP9 ht9 HB9.out HT.out (by rw [hwin]; omega) (j + b.length + 1 - j) (by omega) (by omega)
        rw [hA'] at htk
        have HTK := Lib.hid htk
        have HGR := Lib.hid hgr
        have next : ∀ S : List Nat, S.length = b.length → lt9 S → pv S = (pv (x :: W') + 1000000000 ^ b.length * t) % pv b →
            Hid ((j : Int) - 1 = (j : Int) - 1 ∧ A'.length = j ∧ S.length = b.length ∧ lt9 A' ∧ lt9 S ∧ pv S < pv b ∧ pv (A' ++ S) % pv b = pv a % pv b ∧ j + b.length + (z + 1) = a.length + 1) := fun S hS hS9 hSv => by
          refine Lib.hid ⟨rfl, hA', hS, fun y hy => e3 y (by simp [hy]), hS9, by rw [hSv]; exact Nat.mod_lt _ HB0.out, ?_, by omega⟩
          rw [← e6, pv_append, show A' ++ [x] ++ (W' ++ [t]) = A' ++ (x :: (W' ++ [t])) by simp, pv_append, pv_consN, hSv, hwin]
          rw [Nat.add_mod, Nat.mul_mod, Nat.mod_mod, ← Nat.mul_mod, ← Nat.add_mod]
        have NEXT := Lib.hid next
        have hjb : j + b.length ≤ a.length := by omega
        clear e0 e1 e2 e3 e4 e5 e6 e7 hA' hP9 hwin hrow hrow2 htk hgr next hkE HI hW' hx9 ht9
        go_wp2_with fail
        refine HTK.out.mono ?_
        rintro e w3 ⟨S, rfl, k1, k2, k3, k4, k5⟩
        have HN := NEXT.out S k1 k2 k3
        have HK4 := Lib.hid k4
        have HK5 := Lib.hid (grown_trans HGR.out k5)
        clear k1 k2 k3 k4 k5
        go_wp2_with fail
        refine ⟨⟨(j : Int) - 1, j, z + 1, A', S, rfl, by omega, by omega, Lib.hid ⟨rfl, HN.out.2⟩, by rw [List.replicate_succ]; exact HK4.out, HK5.out⟩, ?_⟩
        clear NEXT HN HK4 HK5
        show ((j : Int) - 1 + 1).toNat < ((j : Int) + 1).toNat
        omega
      · obtain rfl : k = 0 := by omega
        obtain ⟨e0, e1, e2, e3, e4, e5, e6, e7⟩ := HI.out
        obtain rfl : A = [] := List.length_eq_zero_iff.1 e1
        rw [List.nil_append] at hrow e6
        have h9 : lt9 (Wd ++ List.replicate z 0) := by
          intro y hy
          rcases List.mem_append.1 hy with h | h
          · exact e4 y h
          · rw [(List.mem_replicate.1 h).2]; decide
        have hL : (Wd ++ List.replicate z 0).length = a.length + 1 := by simp; omega
        have hpc := Pcs.of_trim h9
        rw [zeros_pv, show pv Wd = pv a % pv b by rw [← e6]; exact (Nat.mod_eq_of_lt e5).symm] at hpc
        have ht := trim_any B g1 cap1 _ wr hrow
        rw [hL] at ht
        have HTR := Lib.hid ht
        have htk := hrow.take (trimP (Wd ++ List.replicate z 0)).length (trimP_props _).2.2.2.1
        rw [← (trimP_props (Wd ++ List.replicate z 0)).2.2.2.2] at htk
        have HF := Lib.hid (show Pcs (trimP (Wd ++ List.replicate z 0)) (pv a % pv b) ∧ Row wr B g1 cap1 (trimP (Wd ++ List.replicate z 0)) ∧ Row wr B g' cap' b ∧ g1 ≠ g' ∧ Below B w wr from
          ⟨hpc, htk, HRB.out.grown hgr hgg, fun e => hgg e.symm, HBEL.out.trans (grown_below hgr HG1.out.1 (by have := HG1.out; omega))⟩)
        clear e0 e1 e2 e3 e4 e5 e6 h9 hpc ht htk hrow hgr hkE HI
        go_wp2_with fail
        refine HTR.out.mono ?_
        rintro e w3 ⟨rfl, rfl⟩
        go_wp2_with fail
        go_ret
        exact ⟨g1, cap1, _, rfl, HF.out.1, HF.out.2.1, HF.out.2.2.1, HF.out.2.2.2.1, HF.out.2.2.2.2⟩

set_option maxHeartbeats 3200000 in
set_option maxRecDepth 100000 in
theorem reduce_less (B g cap g' cap' : Nat) (a b : List Nat) (w : World) (ha : Row w B g cap a) (hb : Row w B g' cap' b) (hg : g' ≠ g) (hab : a.length < b.length) (ha9 : lt9 a) (htop : Go.Proofs.YtfhmdlpjeiockaaDoor.top b) (hlen : a.length ≤ 200000) (hB : B ≤ w.heap.size) :
    Calls Tryd.prog 46 #[.slice (some ⟨g, 0, none⟩) a.length cap, .slice (some ⟨g', 0, none⟩) b.length cap', .slice none 0 0] w fun e w' => ∃ (g1 cap1 : Nat) (p : List Nat), e = .returned (.slice (some ⟨g1, 0, none⟩) p.length cap1) ∧ Pcs p (pv a % pv b) ∧ Row w' B g1 cap1 p ∧ Row w' B g' cap' b ∧ g1 ≠ g' ∧ Below B w w' := by
  obtain ⟨i0, hi, hz0, hz1, hz2⟩ := info_parts info64
  have hlca := ha.len_cap
  have hlcb := hb.len_cap
  unfold maxLen at hlca hlcb
  have HA := Lib.hid ha
  have HB := Lib.hid hb
  have hlt : pv a < pv b := by
    have h1 := top_big htop (by intro e; rw [e] at hab; simp at hab)
    have h3 := pv_lt a ha9
    have h4 : 1000000000 ^ a.length ≤ 1000000000 ^ (b.length - 1) := Nat.pow_le_pow_right (by decide) (by omega)
    omega
  have HA9 := Lib.hid ha9
  have HLT := Lib.hid hlt
  have HGB := Lib.hid hb.lt
  have HGA := Lib.hid ha.lt
  clear ha hb ha9 htop hlt
  go_enter Tryd.func46, Tryd.ntmps46
  go_wp2_with (first
    | (at_builtin; refine wpList_append_own_at _ rfl _ _ 47 rfl B 37 i0 (.int .u64 0) 1 8 Tryd.underlying47 hi hz0 hz1 hz2 rfl (by decide) _ _ _ rfl (World.ownsRow.alloc HA.out _) ⟨w.heap.size, 0, none⟩ 1 1 [.int .u64 0] rfl rfl ?c1 ?c2 ?c3 ?c4 ?c5 ?_)
    | fail)
  case c1 =>
    intro j u hj
    match j, hj with
    | 0, hj => simp at hj; subst hj; simp [Addr.add]
  case c2 => intro u hu; simp at hu; subst hu; rfl
  case c3 => unfold maxLen; omega
  case c4 => omega
  case c5 => simp; omega
  · intro v' w2 hown' hgrow _ hblk
    obtain ⟨g1, cap1, rfl⟩ := own_some hown' (by omega)
    have hrow' : Row w2 B g1 cap1 (a ++ [0]) := Row.of hown' (by simp) (by rw [c64_append]; rfl)
    have hgg : g' ≠ g1 := by
      have h1 := HGB.out.2
      rcases hblk with h | h
      · simp [Value.ownBlock] at h; omega
      · simp [Value.ownBlock] at h; omega
    have hbel : Below B w w2 := (((Below.refl B w).alloc hB _).grown hgrow (by simp; omega) (by intro q hq; simp [Value.ownBlock] at hq; have := HGA.out; omega))
    have hrb : Row w2 B g' cap' b := World.ownsRow.kept (World.ownsRow.alloc HB.out _) hgrow (.inr (by simp [Value.ownBlock]; exact hg))
    have HROW := Lib.hid hrow'
    have HRB := Lib.hid hrb
    have HBEL := Lib.hid hbel
    have hl1 : (a ++ [0]).length = a.length + 1 := by simp
    have hlc1 := hrow'.len_cap
    unfold maxLen at hlc1
    rw [hl1] at hlc1
    have HG1 := Lib.hid hrow'.lt
    clear hown' hgrow hblk hrow' hrb hbel hl1
    go_wp2_with fail
    go_loopw [8, 9] (fun iv _ wr => iv = .int .i64 ((a.length : Int) - (b.length : Int)) ∧ wr = w2) (fun _ _ _ => 0)
    case atStart => exact ⟨rfl, rfl⟩
    case round =>
      obtain ⟨rfl, hw⟩ := hrel
      obtain rfl := hw.symm
      clear hw
      have hneg : (a.length : Int) - (b.length : Int) < 0 := by omega
      have h9 : lt9 (a ++ [0]) := lt9_snoc HA9.out (by decide)
      have hpc := Pcs.of_trim h9
      have hz := zeros_pv a 1
      rw [show a ++ List.replicate 1 0 = a ++ [0] from rfl] at hz
      rw [hz, show pv a = pv a % pv b from (Nat.mod_eq_of_lt HLT.out).symm] at hpc
      have hrow := HROW.out
      have ht := trim_any B g1 cap1 _ w2 hrow
      have hl1 : (a ++ [0]).length = a.length + 1 := by simp
      rw [hl1] at ht
      have HTR := Lib.hid ht
      have htk := hrow.take (trimP (a ++ [0])).length (trimP_props _).2.2.2.1
      rw [← (trimP_props (a ++ [0])).2.2.2.2] at htk
      have HF := Lib.hid (show Pcs (trimP (a ++ [0])) (pv a % pv b) ∧ Row w2 B g1 cap1 (trimP (a ++ [0])) ∧ Row w2 B g' cap' b ∧ g1 ≠ g' ∧ Below B w w2 from
        ⟨hpc, htk, HRB.out, fun e => hgg e.symm, HBEL.out⟩)
      clear h9 hpc hz hrow ht htk hl1
      go_wp2_with fail
      refine HTR.out.mono ?_
      rintro e w3 ⟨rfl, rfl⟩
      go_wp2_with fail
      go_ret
      exact ⟨g1, cap1, _, rfl, HF.out.1, HF.out.2.1, HF.out.2.2.1, HF.out.2.2.2.1, HF.out.2.2.2.2⟩
end Go.Proofs.YtfhmdlpjeiockaaDoor
