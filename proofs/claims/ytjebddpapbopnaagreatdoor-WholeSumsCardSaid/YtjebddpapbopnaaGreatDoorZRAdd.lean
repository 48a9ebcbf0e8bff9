/-
  The reference of package whole: quick, Add, Sub.
-/
import Derived.Test.YtjebddpapbopnaaGreatDoorZJoin
import Derived.Test.YtjebddpapbopnaaGreatDoorZRight
namespace Go.Proofs.YtjebddpapbopnaaGreatDoor
open Go.RowKit

theorem quickZ_yes (z : Int) (w : World) (h : (str z.natAbs).size ≤ 18) :
    Calls Tryz.prog 61 #[.string (zS z)] w fun e w' => e = .returned (.tuple #[.int .i64 z, .bool true]) ∧ w = w' := by
  have hb := lt_of_size h
  have HD := Lib.hid (fun wx => digitsR_any z wx (by omega))
  have hsm := fun wx => smallZ_any z wx (by omega)
  have hi := inI_of.2 (show -9223372036854775808 ≤ z ∧ z ≤ 9223372036854775807 by omega)
  rw [show smV z = z by unfold smV; rw [hi]; rfl, hi] at hsm
  have HSM := Lib.hid hsm
  obtain ⟨d, hd⟩ : ∃ d, d = str z.natAbs := ⟨_, rfl⟩
  obtain ⟨s, hs⟩ : ∃ d, d = zS z := ⟨_, rfl⟩
  rw [← hd] at HD h
  rw [← hs] at HD HSM ⊢
  have hle : decide ((18 : Int) < d.size) = false := decide_eq_false (by omega)
  clear hb hsm hi hd hs h
  go_enter Tryz.func61, Tryz.ntmps61
  go_wp2_with fail
  refine (HD.out _).mono ?_
  rintro e w1 ⟨rfl, rfl⟩
  go_wp2_with fail
  refine (HSM.out _).mono ?_
  rintro e w1 ⟨rfl, rfl⟩
  go_wp2_with fail
  go_ret2
  exact ⟨rfl, rfl⟩
theorem quickZ_no (z : Int) (w : World) (h : 18 < (str z.natAbs).size) (hl : (str z.natAbs).size ≤ 1000000) :
    Calls Tryz.prog 61 #[.string (zS z)] w fun e w' => e = .returned (.tuple #[.int .i64 0, .bool false]) ∧ w = w' := by
  have HD := Lib.hid (fun wx => digitsR_any z wx (by omega))
  obtain ⟨d, hd⟩ : ∃ d, d = str z.natAbs := ⟨_, rfl⟩
  obtain ⟨s, hs⟩ : ∃ d, d = zS z := ⟨_, rfl⟩
  rw [← hd] at HD h hl
  rw [← hs] at HD ⊢
  have hle : decide ((18 : Int) < d.size) = true := decide_eq_true (by omega)
  clear hd hs h
  go_enter Tryz.func61, Tryz.ntmps61
  go_wp2_with fail
  refine (HD.out _).mono ?_
  rintro e w1 ⟨rfl, rfl⟩
  go_wp2_with fail
  go_ret2
  exact ⟨rfl, rfl⟩
/-- either way -/
theorem quickZ_any (z : Int) (hl : (str z.natAbs).size ≤ 1000000) : ∃ (q : Int) (b : Bool), (∀ wx, Calls Tryz.prog 61 #[.string (zS z)] wx fun e w' => e = .returned (.tuple #[.int .i64 q, .bool b]) ∧ wx = w') ∧ (b = true → (str z.natAbs).size ≤ 18 ∧ q = z) ∧ (b = false → 18 < (str z.natAbs).size) := by
  by_cases h : (str z.natAbs).size ≤ 18
  · exact ⟨z, true, fun wx => quickZ_yes z wx h, fun _ => ⟨h, rfl⟩, (fun h => by cases h)⟩
  · exact ⟨0, false, fun wx => quickZ_no z wx (by omega) hl, (fun h => by cases h), (fun _ => by omega)⟩
theorem splitN_any (n : Nat) (w : World) (hs : (str n).size ≤ 100000) :
    Calls Tryz.prog 62 #[.string (str n)] w fun e w' => ∃ (o : Option Addr) (c : Nat) (r : List Nat), e = .returned (.slice o r.length c) ∧ Pd w' o c r ∧ Pcs r n ∧ Below w.heap.size w w' := by
  have h := splitZ_any (str n) w (by rw [str_list]; exact all_dd n) hs
  rw [val_str] at h
  exact h
theorem pcs_len {p : List Nat} {a k : Nat} (h : Pcs p a) (hs : (str a).size ≤ k) : p.length ≤ k := by
  have ha := lt_of_size hs
  by_cases h0 : p = []
  · rw [h0]; simp
  · have h1 := h.len_lower h0
    apply Nat.le_of_not_lt; intro hlt
    have h2 : (10 : Nat) ^ k ≤ 1000000000 ^ (p.length - 1) := by
      calc (10 : Nat) ^ k ≤ 10 ^ (9 * (p.length - 1)) := Nat.pow_le_pow_right (by decide) (by omega)
        _ = _ := pow9 _
    omega
set_option maxHeartbeats 3200000 in
set_option maxRecDepth 100000 in
theorem addR_far (x y : Int) (w : World) (hs : Std w) (hx : (str x.natAbs).size ≤ 10000) (hy : (str y.natAbs).size ≤ 10000) (hq : ¬ ((str x.natAbs).size ≤ 18 ∧ (str y.natAbs).size ≤ 18)) :
    Calls Tryz.prog 32 #[.string (zS x), .string (zS y)] w fun e w' => e = .returned (.string (zS (x + y))) ∧ Below w.heap.size w w' := by
  obtain ⟨q1, b1, hq1, k1, -⟩ := quickZ_any x (by omega)
  obtain ⟨q2, b2, hq2, k2, -⟩ := quickZ_any y (by omega)
  have hbb : b1 = false ∨ (b1 = true ∧ b2 = false) := by
    cases b1
    · exact .inl rfl
    · cases b2
      · exact .inr ⟨rfl, rfl⟩
      · exact absurd ⟨(k1 rfl).1, (k2 rfl).1⟩ hq
  have HQ1 := Lib.hid hq1
  have HQ2 := Lib.hid hq2
  have HDX := Lib.hid (fun wx => digitsR_any x wx (by omega))
  have HDY := Lib.hid (fun wx => digitsR_any y wx (by omega))
  have HSX := Lib.hid (fun wx => splitN_any x.natAbs wx (by omega))
  have HSY := Lib.hid (fun wx => splitN_any y.natAbs wx (by omega))
  have HLX := Lib.hid (fun p (h : Pcs p x.natAbs) => pcs_len h hx)
  have HLY := Lib.hid (fun p (h : Pcs p y.natAbs) => pcs_len h hy)
  have hsx := fun wx => sideR_any x wx (by omega)
  have hsy := fun wx => sideR_any y wx (by omega)
  have HS := Lib.hid hs
  obtain ⟨a, ha⟩ : ∃ a, a = x.natAbs := ⟨_, rfl⟩
  obtain ⟨b, hb⟩ : ∃ a, a = y.natAbs := ⟨_, rfl⟩
  rw [← ha] at HDX HSX HLX
  rw [← hb] at HDY HSY HLY
  obtain ⟨s, hs2⟩ : ∃ d, d = zS x := ⟨_, rfl⟩
  obtain ⟨t, ht⟩ : ∃ d, d = zS y := ⟨_, rfl⟩
  obtain ⟨ds, hds⟩ : ∃ d, d = str a := ⟨_, rfl⟩
  obtain ⟨es, hes⟩ : ∃ d, d = str b := ⟨_, rfl⟩
  rw [← hs2] at HQ1 HDX hsx ⊢
  rw [← ht] at HQ2 HDY hsy ⊢
  rw [← hds] at HDX HSX
  rw [← hes] at HDY HSY
  clear hq hq1 hq2 k1 k2 hs hs2 ht hds hes hx hy
  by_cases hxn : x < 0
  · rw [if_pos hxn] at hsx
    by_cases hyn : y < 0
    · rw [if_pos hyn] at hsy
      have HE := Lib.hid (show -((a + b : Nat) : Int) = x + y by omega)
      clear ha hb hxn hyn
      have HSDX := Lib.hid hsx
      have HSDY := Lib.hid hsy
      clear hsx hsy
      rcases hbb with rfl | ⟨rfl, rfl⟩
      all_goals
        go_enter Tryz.func32, Tryz.ntmps32
        go_wp2_with fail
        refine (HQ1.out _).mono ?_
        rintro e w1 ⟨rfl, rfl⟩
        go_wp2_with fail
        refine (HQ2.out _).mono ?_
        rintro e w1 ⟨rfl, rfl⟩
        go_wp2_with fail
        refine (HDX.out _).mono ?_
        rintro e w1 ⟨rfl, rfl⟩
        go_wp2_with fail
        refine (HSX.out _).mono ?_
        rintro e w1 ⟨o1, c1, p, rfl, hp1, hp2, h1⟩
        have B1 := Lib.hid h1
        have P1 := Lib.hid hp1
        have P2 := Lib.hid hp2
        have hpl := HLX.out p hp2
        clear h1 hp1 hp2
        go_wp2_with fail
        refine (HDY.out _).mono ?_
        rintro e w2 ⟨rfl, rfl⟩
        go_wp2_with fail
        refine (HSY.out _).mono ?_
        rintro e w2 ⟨o2, c2, q, rfl, hp1, hp2, h2⟩
        have B2 := Lib.hid (B1.out.trans (h2.mono B1.out.size))
        have Q1 := Lib.hid hp1
        have Q2 := Lib.hid hp2
        have P3 := Lib.hid (P1.out.below h2)
        have hql := HLY.out q hp2
        clear h2 hp1 hp2
        go_wp2_with fail
        refine (HSDX.out _).mono ?_
        rintro e w3 ⟨rfl, rfl⟩
        go_wp2_with fail
        refine (HSDY.out _).mono ?_
        rintro e w3 ⟨rfl, rfl⟩
        go_wp2_with fail
        refine (HSDX.out _).mono ?_
        rintro e w3 ⟨rfl, rfl⟩
        have HP := Lib.hid (fun wx h1 h2 => plusZ_any o1 c1 p o2 c2 q wx h1 h2 (by omega) (by omega))
        obtain ⟨m, hm⟩ : ∃ m, m = p.length := ⟨_, rfl⟩
        obtain ⟨n, hn⟩ : ∃ m, m = q.length := ⟨_, rfl⟩
        rw [← hm] at HP ⊢
        rw [← hn] at HP ⊢
        clear hm hn hpl hql
        go_wp2_with fail
        refine (HP.out _ P3.out Q1.out).mono ?_
        rintro e w4 ⟨o3, c3, r, rfl, hr1, hr2, hr3, h4⟩
        have B4 := Lib.hid (B2.out.trans (h4.mono B2.out.size))
        have hg := fun wx hw h => signedZ_any true o3 c3 r wx hw h (by omega)
        rw [hr2, P2.out.val, Q2.out.val, if_pos rfl, HE.out] at hg
        have HSG := Lib.hid hg
        have R1 := Lib.hid hr1
        obtain ⟨k, hk⟩ : ∃ m, m = r.length := ⟨_, rfl⟩
        rw [← hk] at HSG ⊢
        clear h4 hg hr1 hr2 hr3 hk
        go_wp2_with fail
        refine (HSG.out _ (HS.out.below B4.out) R1.out).mono ?_
        rintro e w5 ⟨rfl, h5⟩
        have B5 := Lib.hid (B4.out.trans (h5.mono B4.out.size))
        clear h5
        go_wp2_with fail
        go_ret
        exact ⟨rfl, B5.out⟩
    · rw [if_neg hyn] at hsy
      have HG := Lib.hid (show b ≤ a → -((a - b : Nat) : Int) = x + y by omega)
      have HH := Lib.hid (show a < b → ((b - a : Nat) : Int) = x + y by omega)
      clear ha hb hxn hyn
      have HSDX := Lib.hid hsx
      have HSDY := Lib.hid hsy
      clear hsx hsy
      rcases hbb with rfl | ⟨rfl, rfl⟩
      all_goals
        go_enter Tryz.func32, Tryz.ntmps32
        go_wp2_with fail
        refine (HQ1.out _).mono ?_
        rintro e w1 ⟨rfl, rfl⟩
        go_wp2_with fail
        refine (HQ2.out _).mono ?_
        rintro e w1 ⟨rfl, rfl⟩
        go_wp2_with fail
        refine (HDX.out _).mono ?_
        rintro e w1 ⟨rfl, rfl⟩
        go_wp2_with fail
        refine (HSX.out _).mono ?_
        rintro e w1 ⟨o1, c1, p, rfl, hp1, hp2, h1⟩
        have B1 := Lib.hid h1
        have P1 := Lib.hid hp1
        have P2 := Lib.hid hp2
        have hpl := HLX.out p hp2
        clear h1 hp1 hp2
        go_wp2_with fail
        refine (HDY.out _).mono ?_
        rintro e w2 ⟨rfl, rfl⟩
        go_wp2_with fail
        refine (HSY.out _).mono ?_
        rintro e w2 ⟨o2, c2, q, rfl, hp1, hp2, h2⟩
        have B2 := Lib.hid (B1.out.trans (h2.mono B1.out.size))
        have Q1 := Lib.hid hp1
        have Q2 := Lib.hid hp2
        have P3 := Lib.hid (P1.out.below h2)
        have hql := HLY.out q hp2
        clear h2 hp1 hp2
        go_wp2_with fail
        refine (HSDX.out _).mono ?_
        rintro e w3 ⟨rfl, rfl⟩
        go_wp2_with fail
        refine (HSDY.out _).mono ?_
        rintro e w3 ⟨rfl, rfl⟩
        go_wp2_with fail
        have HO := Lib.hid (fun wx h1 h2 => orderZ_any o1 c1 p o2 c2 q a b wx h1 h2 P2.out Q2.out)
        by_cases hle : b ≤ a
        · have HMI := Lib.hid (fun wx h1 h2 => minusZ_any o1 c1 p o2 c2 q a b wx h1 h2 P2.out Q2.out hle (by omega))
          have HEV := Lib.hid (HG.out hle)
          have HRL := Lib.hid (fun r (h : Pcs r (a - b)) => P2.out.len_mono h (Nat.sub_le a b))
          have hc0 : 0 ≤ cmpN a b := by rcases cmpN_ways a b with ⟨h, e⟩ | ⟨h, e⟩ | ⟨h, e⟩ <;> rw [e] <;> omega
          obtain ⟨c, hc⟩ : ∃ c, c = cmpN a b := ⟨_, rfl⟩
          rw [← hc] at HO hc0
          have hcd : decide (c ≥ 0) = true := decide_eq_true hc0
          obtain ⟨m, hm⟩ : ∃ m, m = p.length := ⟨_, rfl⟩
          obtain ⟨n, hn⟩ : ∃ m, m = q.length := ⟨_, rfl⟩
          rw [← hm] at HO HMI HRL hpl ⊢
          rw [← hn] at HO HMI hql ⊢
          clear hm hn hc
          go_wp2_with fail
          refine (HO.out _ P3.out Q1.out).mono ?_
          rintro e w3 ⟨rfl, h3⟩
          have B3 := Lib.hid (B2.out.trans (h3.mono B2.out.size))
          have P4 := Lib.hid (P3.out.below h3)
          have Q4 := Lib.hid (Q1.out.below h3)
          clear h3
          go_wp2_with fail
          refine (HSDX.out _).mono ?_
          rintro e w4 ⟨rfl, rfl⟩
          go_wp2_with fail
          refine (HMI.out _ P4.out Q4.out).mono ?_
          rintro e w4 ⟨o3, c3, r, rfl, hr1, hr2, h4⟩
          have B4 := Lib.hid (B3.out.trans (h4.mono B3.out.size))
          have hrl := HRL.out r hr2
          have hg := fun wx hw h => signedZ_any true o3 c3 r wx hw h (by omega)
          rw [hr2.val, if_pos rfl, HEV.out] at hg
          have HSG := Lib.hid hg
          have R1 := Lib.hid hr1
          obtain ⟨k, hk⟩ : ∃ m, m = r.length := ⟨_, rfl⟩
          rw [← hk] at HSG ⊢
          clear h4 hg hr1 hr2 hrl hk
          go_wp2_with fail
          refine (HSG.out _ (HS.out.below B4.out) R1.out).mono ?_
          rintro e w5 ⟨rfl, h5⟩
          have B5 := Lib.hid (B4.out.trans (h5.mono B4.out.size))
          clear h5
          go_wp2_with fail
          go_ret
          exact ⟨rfl, B5.out⟩
        · have HMI := Lib.hid (fun wx h1 h2 => minusZ_any o2 c2 q o1 c1 p b a wx h1 h2 Q2.out P2.out (by omega) (by omega))
          have HEV := Lib.hid (HH.out (by omega))
          have HRL := Lib.hid (fun r (h : Pcs r (b - a)) => Q2.out.len_mono h (Nat.sub_le b a))
          have hc0 : cmpN a b < 0 := by rcases cmpN_ways a b with ⟨h, e⟩ | ⟨h, e⟩ | ⟨h, e⟩ <;> rw [e] <;> omega
          obtain ⟨c, hc⟩ : ∃ c, c = cmpN a b := ⟨_, rfl⟩
          rw [← hc] at HO hc0
          have hcd : decide (c ≥ 0) = false := decide_eq_false (by omega)
          obtain ⟨m, hm⟩ : ∃ m, m = p.length := ⟨_, rfl⟩
          obtain ⟨n, hn⟩ : ∃ m, m = q.length := ⟨_, rfl⟩
          rw [← hm] at HO HMI hpl ⊢
          rw [← hn] at HO HMI HRL hql ⊢
          clear hm hn hc
          go_wp2_with fail
          refine (HO.out _ P3.out Q1.out).mono ?_
          rintro e w3 ⟨rfl, h3⟩
          have B3 := Lib.hid (B2.out.trans (h3.mono B2.out.size))
          have P4 := Lib.hid (P3.out.below h3)
          have Q4 := Lib.hid (Q1.out.below h3)
          clear h3
          go_wp2_with fail
          refine (HSDY.out _).mono ?_
          rintro e w4 ⟨rfl, rfl⟩
          go_wp2_with fail
          refine (HMI.out _ Q4.out P4.out).mono ?_
          rintro e w4 ⟨o3, c3, r, rfl, hr1, hr2, h4⟩
          have B4 := Lib.hid (B3.out.trans (h4.mono B3.out.size))
          have hrl := HRL.out r hr2
          have hg := fun wx hw h => signedZ_any false o3 c3 r wx hw h (by omega)
          rw [hr2.val, if_neg (by decide), HEV.out] at hg
          have HSG := Lib.hid hg
          have R1 := Lib.hid hr1
          obtain ⟨k, hk⟩ : ∃ m, m = r.length := ⟨_, rfl⟩
          rw [← hk] at HSG ⊢
          clear h4 hg hr1 hr2 hrl hk
          go_wp2_with fail
          refine (HSG.out _ (HS.out.below B4.out) R1.out).mono ?_
          rintro e w5 ⟨rfl, h5⟩
          have B5 := Lib.hid (B4.out.trans (h5.mono B4.out.size))
          clear h5
          go_wp2_with fail
          go_ret
          exact ⟨rfl, B5.out⟩
  · rw [if_neg hxn] at hsx
    by_cases hyn : y < 0
    · rw [if_pos hyn] at hsy
      have HG := Lib.hid (show b ≤ a → ((a - b : Nat) : Int) = x + y by omega)
      have HH := Lib.hid (show a < b → -((b - a : Nat) : Int) = x + y by omega)
      clear ha hb hxn hyn
      have HSDX := Lib.hid hsx
      have HSDY := Lib.hid hsy
      clear hsx hsy
      rcases hbb with rfl | ⟨rfl, rfl⟩
      all_goals
        go_enter Tryz.func32, Tryz.ntmps32
        go_wp2_with fail
        refine (HQ1.out _).mono ?_
        rintro e w1 ⟨rfl, rfl⟩
        go_wp2_with fail
        refine (HQ2.out _).mono ?_
        rintro e w1 ⟨rfl, rfl⟩
        go_wp2_with fail
        refine (HDX.out _).mono ?_
        rintro e w1 ⟨rfl, rfl⟩
        go_wp2_with fail
        refine (HSX.out _).mono ?_
        rintro e w1 ⟨o1, c1, p, rfl, hp1, hp2, h1⟩
        have B1 := Lib.hid h1
        have P1 := Lib.hid hp1
        have P2 := Lib.hid hp2
        have hpl := HLX.out p hp2
        clear h1 hp1 hp2
        go_wp2_with fail
        refine (HDY.out _).mono ?_
        rintro e w2 ⟨rfl, rfl⟩
        go_wp2_with fail
        refine (HSY.out _).mono ?_
        rintro e w2 ⟨o2, c2, q, rfl, hp1, hp2, h2⟩
        have B2 := Lib.hid (B1.out.trans (h2.mono B1.out.size))
        have Q1 := Lib.hid hp1
        have Q2 := Lib.hid hp2
        have P3 := Lib.hid (P1.out.below h2)
        have hql := HLY.out q hp2
        clear h2 hp1 hp2
        go_wp2_with fail
        refine (HSDX.out _).mono ?_
        rintro e w3 ⟨rfl, rfl⟩
        go_wp2_with fail
        refine (HSDY.out _).mono ?_
        rintro e w3 ⟨rfl, rfl⟩
        go_wp2_with fail
        have HO := Lib.hid (fun wx h1 h2 => orderZ_any o1 c1 p o2 c2 q a b wx h1 h2 P2.out Q2.out)
        by_cases hle : b ≤ a
        · have HMI := Lib.hid (fun wx h1 h2 => minusZ_any o1 c1 p o2 c2 q a b wx h1 h2 P2.out Q2.out hle (by omega))
          have HEV := Lib.hid (HG.out hle)
          have HRL := Lib.hid (fun r (h : Pcs r (a - b)) => P2.out.len_mono h (Nat.sub_le a b))
          have hc0 : 0 ≤ cmpN a b := by rcases cmpN_ways a b with ⟨h, e⟩ | ⟨h, e⟩ | ⟨h, e⟩ <;> rw [e] <;> omega
          obtain ⟨c, hc⟩ : ∃ c, c = cmpN a b := ⟨_, rfl⟩
          rw [← hc] at HO hc0
          have hcd : decide (c ≥ 0) = true := decide_eq_true hc0
          obtain ⟨m, hm⟩ : ∃ m, m = p.length := ⟨_, rfl⟩
          obtain ⟨n, hn⟩ : ∃ m, m = q.length := ⟨_, rfl⟩
          rw [← hm] at HO HMI HRL hpl ⊢
          rw [← hn] at HO HMI hql ⊢
          clear hm hn hc
          go_wp2_with fail
          refine (HO.out _ P3.out Q1.out).mono ?_
          rintro e w3 ⟨rfl, h3⟩
          have B3 := Lib.hid (B2.out.trans (h3.mono B2.out.size))
          have P4 := Lib.hid (P3.out.below h3)
          have Q4 := Lib.hid (Q1.out.below h3)
          clear h3
          go_wp2_with fail
          refine (HSDX.out _).mono ?_
          rintro e w4 ⟨rfl, rfl⟩
          go_wp2_with fail
          refine (HMI.out _ P4.out Q4.out).mono ?_
          rintro e w4 ⟨o3, c3, r, rfl, hr1, hr2, h4⟩
          have B4 := Lib.hid (B3.out.trans (h4.mono B3.out.size))
          have hrl := HRL.out r hr2
          have hg := fun wx hw h => signedZ_any false o3 c3 r wx hw h (by omega)
          rw [hr2.val, if_neg (by decide), HEV.out] at hg
          have HSG := Lib.hid hg
          have R1 := Lib.hid hr1
          obtain ⟨k, hk⟩ : ∃ m, m = r.length := ⟨_, rfl⟩
          rw [← hk] at HSG ⊢
          clear h4 hg hr1 hr2 hrl hk
          go_wp2_with fail
          refine (HSG.out _ (HS.out.below B4.out) R1.out).mono ?_
          rintro e w5 ⟨rfl, h5⟩
          have B5 := Lib.hid (B4.out.trans (h5.mono B4.out.size))
          clear h5
          go_wp2_with fail
          go_ret
          exact ⟨rfl, B5.out⟩
        · have HMI := Lib.hid (fun wx h1 h2 => minusZ_any o2 c2 q o1 c1 p b a wx h1 h2 Q2.out P2.out (by omega) (by omega))
          have HEV := Lib.hid (HH.out (by omega))
          have HRL := Lib.hid (fun r (h : Pcs r (b - a)) => Q2.out.len_mono h (Nat.sub_le b a))
          have hc0 : cmpN a b < 0 := by rcases cmpN_ways a b with ⟨h, e⟩ | ⟨h, e⟩ | ⟨h, e⟩ <;> rw [e] <;> omega
          obtain ⟨c, hc⟩ : ∃ c, c = cmpN a b := ⟨_, rfl⟩
          rw [← hc] at HO hc0
          have hcd : decide (c ≥ 0) = false := decide_eq_false (by omega)
          obtain ⟨m, hm⟩ : ∃ m, m = p.length := ⟨_, rfl⟩
          obtain ⟨n, hn⟩ : ∃ m, m = q.length := ⟨_, rfl⟩
          rw [← hm] at HO HMI hpl ⊢
          rw [← hn] at HO HMI HRL hql ⊢
          clear hm hn hc
          go_wp2_with fail
          refine (HO.out _ P3.out Q1.out).mono ?_
          rintro e w3 ⟨rfl, h3⟩
          have B3 := Lib.hid (B2.out.trans (h3.mono B2.out.size))
          have P4 := Lib.hid (P3.out.below h3)
          have Q4 := Lib.hid (Q1.out.below h3)
          clear h3
          go_wp2_with fail
          refine (HSDY.out _).mono ?_
          rintro e w4 ⟨rfl, rfl⟩
          go_wp2_with fail
          refine (HMI.out _ Q4.out P4.out).mono ?_
          rintro e w4 ⟨o3, c3, r, rfl, hr1, hr2, h4⟩
          have B4 := Lib.hid (B3.out.trans (h4.mono B3.out.size))
          have hrl := HRL.out r hr2
          have hg := fun wx hw h => signedZ_any true o3 c3 r wx hw h (by omega)
          rw [hr2.val, if_pos rfl, HEV.out] at hg
          have HSG := Lib.hid hg
          have R1 := Lib.hid hr1
          obtain ⟨k, hk⟩ : ∃ m, m = r.length := ⟨_, rfl⟩
          rw [← hk] at HSG ⊢
          clear h4 hg hr1 hr2 hrl hk
          go_wp2_with fail
          refine (HSG.out _ (HS.out.below B4.out) R1.out).mono ?_
          rintro e w5 ⟨rfl, h5⟩
          have B5 := Lib.hid (B4.out.trans (h5.mono B4.out.size))
          clear h5
          go_wp2_with fail
          go_ret
          exact ⟨rfl, B5.out⟩
    · rw [if_neg hyn] at hsy
      have HE := Lib.hid (show ((a + b : Nat) : Int) = x + y by omega)
      clear ha hb hxn hyn
      have HSDX := Lib.hid hsx
      have HSDY := Lib.hid hsy
      clear hsx hsy
      rcases hbb with rfl | ⟨rfl, rfl⟩
      all_goals
        go_enter Tryz.func32, Tryz.ntmps32
        go_wp2_with fail
        refine (HQ1.out _).mono ?_
        rintro e w1 ⟨rfl, rfl⟩
        go_wp2_with fail
        refine (HQ2.out _).mono ?_
        rintro e w1 ⟨rfl, rfl⟩
        go_wp2_with fail
        refine (HDX.out _).mono ?_
        rintro e w1 ⟨rfl, rfl⟩
        go_wp2_with fail
        refine (HSX.out _).mono ?_
        rintro e w1 ⟨o1, c1, p, rfl, hp1, hp2, h1⟩
        have B1 := Lib.hid h1
        have P1 := Lib.hid hp1
        have P2 := Lib.hid hp2
        have hpl := HLX.out p hp2
        clear h1 hp1 hp2
        go_wp2_with fail
        refine (HDY.out _).mono ?_
        rintro e w2 ⟨rfl, rfl⟩
        go_wp2_with fail
        refine (HSY.out _).mono ?_
        rintro e w2 ⟨o2, c2, q, rfl, hp1, hp2, h2⟩
        have B2 := Lib.hid (B1.out.trans (h2.mono B1.out.size))
        have Q1 := Lib.hid hp1
        have Q2 := Lib.hid hp2
        have P3 := Lib.hid (P1.out.below h2)
        have hql := HLY.out q hp2
        clear h2 hp1 hp2
        go_wp2_with fail
        refine (HSDX.out _).mono ?_
        rintro e w3 ⟨rfl, rfl⟩
        go_wp2_with fail
        refine (HSDY.out _).mono ?_
        rintro e w3 ⟨rfl, rfl⟩
        go_wp2_with fail
        refine (HSDX.out _).mono ?_
        rintro e w3 ⟨rfl, rfl⟩
        have HP := Lib.hid (fun wx h1 h2 => plusZ_any o1 c1 p o2 c2 q wx h1 h2 (by omega) (by omega))
        obtain ⟨m, hm⟩ : ∃ m, m = p.length := ⟨_, rfl⟩
        obtain ⟨n, hn⟩ : ∃ m, m = q.length := ⟨_, rfl⟩
        rw [← hm] at HP ⊢
        rw [← hn] at HP ⊢
        clear hm hn hpl hql
        go_wp2_with fail
        refine (HP.out _ P3.out Q1.out).mono ?_
        rintro e w4 ⟨o3, c3, r, rfl, hr1, hr2, hr3, h4⟩
        have B4 := Lib.hid (B2.out.trans (h4.mono B2.out.size))
        have hg := fun wx hw h => signedZ_any false o3 c3 r wx hw h (by omega)
        rw [hr2, P2.out.val, Q2.out.val, if_neg (by decide), HE.out] at hg
        have HSG := Lib.hid hg
        have R1 := Lib.hid hr1
        obtain ⟨k, hk⟩ : ∃ m, m = r.length := ⟨_, rfl⟩
        rw [← hk] at HSG ⊢
        clear h4 hg hr1 hr2 hr3 hk
        go_wp2_with fail
        refine (HSG.out _ (HS.out.below B4.out) R1.out).mono ?_
        rintro e w5 ⟨rfl, h5⟩
        have B5 := Lib.hid (B4.out.trans (h5.mono B4.out.size))
        clear h5
        go_wp2_with fail
        go_ret
        exact ⟨rfl, B5.out⟩
set_option maxHeartbeats 800000 in
theorem addZR_any (x y : Int) (w : World) (hs : Std w) (hx : (str x.natAbs).size ≤ 10000) (hy : (str y.natAbs).size ≤ 10000) :
    Calls Tryz.prog 32 #[.string (zS x), .string (zS y)] w fun e w' => e = .returned (.string (zS (x + y))) ∧ Below w.heap.size w w' := by
  by_cases hq : (str x.natAbs).size ≤ 18 ∧ (str y.natAbs).size ≤ 18
  · have hbx := lt_of_size hq.1
    have hby := lt_of_size hq.2
    have HQ1 := Lib.hid (fun wx => quickZ_yes x wx hq.1)
    have HQ2 := Lib.hid (fun wx => quickZ_yes y wx hq.2)
    have HO := Lib.hid (fun wx hw => ofR2_any (x + y) wx hw (by omega) (by omega))
    have hw := IntWalk.i64_in (x + y) ⟨by omega, by omega⟩
    have HS := Lib.hid hs
    obtain ⟨s, hs2⟩ : ∃ d, d = zS x := ⟨_, rfl⟩
    obtain ⟨t, ht⟩ : ∃ d, d = zS y := ⟨_, rfl⟩
    rw [← hs2] at HQ1 ⊢
    rw [← ht] at HQ2 ⊢
    clear hs hx hy hq hbx hby hs2 ht
    go_enter Tryz.func32, Tryz.ntmps32
    go_wp2_with fail
    refine (HQ1.out _).mono ?_
    rintro e w1 ⟨rfl, rfl⟩
    go_wp2_with fail
    refine (HQ2.out _).mono ?_
    rintro e w1 ⟨rfl, rfl⟩
    go_wp2_with fail
    refine (HO.out _ HS.out).mono ?_
    rintro e w1 ⟨rfl, h1⟩
    have B1 := Lib.hid h1
    clear h1
    go_wp2_with fail
    go_ret
    exact ⟨rfl, B1.out⟩
  · exact addR_far x y w hs hx hy hq
set_option maxHeartbeats 800000 in
theorem subZR_any (x y : Int) (w : World) (hs : Std w) (hx : (str x.natAbs).size ≤ 10000) (hy : (str y.natAbs).size ≤ 10000) :
    Calls Tryz.prog 35 #[.string (zS x), .string (zS y)] w fun e w' => e = .returned (.string (zS (x - y))) ∧ Below w.heap.size w w' := by
  have HN := Lib.hid (fun wx => negR_any y wx (by omega))
  have ha := fun wx hw => addZR_any x (-y) wx hw hx (by rw [Int.natAbs_neg]; exact hy)
  rw [show x + -y = x - y by omega] at ha
  have HA := Lib.hid ha
  have HS := Lib.hid hs
  obtain ⟨s, hs2⟩ : ∃ d, d = zS x := ⟨_, rfl⟩
  obtain ⟨t, ht⟩ : ∃ d, d = zS y := ⟨_, rfl⟩
  obtain ⟨n, hn⟩ : ∃ d, d = zS (-y) := ⟨_, rfl⟩
  rw [← hs2] at HA ⊢
  rw [← ht] at HN ⊢
  rw [← hn] at HN HA
  clear hs hx hy ha hs2 ht hn
  go_enter Tryz.func35, Tryz.ntmps35
  go_wp2_with fail
  refine (HN.out _).mono ?_
  rintro e w1 ⟨rfl, rfl⟩
  go_wp2_with fail
  refine (HA.out _ HS.out).mono ?_
  rintro e w1 ⟨rfl, h1⟩
  have B1 := Lib.hid h1
  clear h1
  go_wp2_with fail
  go_ret
  exact ⟨rfl, B1.out⟩
end Go.Proofs.YtjebddpapbopnaaGreatDoor
