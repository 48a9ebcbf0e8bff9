/-
  The walk of the law RowCombines.
-/
import Derived.Test.YtgcddiakdmddjaaDoorWComb
import Derived.Test.YtgcddiakdmddjaaDoorWAdds
import Derived.Test.YtgcddiakdmddjaaDoorWWit
import Derived.Deep.Matrix
namespace Go.Proofs.YtgcddiakdmddjaaDoor
open Go.RowKit

/-- rows that came in -/
theorem RdM.of_open {w : World} {x : Addr} {l c : Nat} {A : Nat → Option Addr} {L C : Nat → Nat} {Z : Nat → List Int} (hl : l ≤ c) (hm : c ≤ maxLen)
    (h : ∀ r, r < c → w.cell? (x.add r) = some (.slice (A r) (L r) (C r)) ∧ L r ≤ C r ∧ C r ≤ maxLen ∧ (Z r).length = C r ∧ (∀ n ∈ Z r, (Lit.int .i64 n).wf = true) ∧ (A r = none → C r = 0) ∧
      ∀ a', A r = some a' → 0 ≤ a'.block ∧ ∀ c, c < C r → w.cell? (a'.add c) = some (.int .i64 ((Z r).getD c 0))) :
    RdM w (some x) l c ((List.range l).map fun r => ⟨A r, L r, C r, (Z r).take (L r)⟩) := by
  have hlen : ((List.range l).map fun r => (⟨A r, L r, C r, (Z r).take (L r)⟩ : Ent)).length = l := by simp
  refine ⟨hlen, hl, hm, fun i hi => ?_, ?_⟩
  · have hi2 : i < c := by rw [hlen] at hi; omega
    simp only [List.getElem_map, List.getElem_range]
    obtain ⟨_, h2, h3, h4, h5, h6, h7⟩ := h i hi2
    cases ha : A i with
    | none =>
      have hc := h6 ha
      have hL : L i = 0 := by omega
      have hZ : Z i = [] := List.eq_nil_of_length_eq_zero (by omega)
      rw [hL, hc, hZ]; exact Rd.nil w
    | some a' => exact Rd.of_open h2 h3 h4 (fun j hj => (h7 a' ha).2 j (by omega)) h5
  · by_cases h0 : l = 0
    · left; subst h0; rfl
    · right
      obtain ⟨b, off, spot⟩ := x
      have hc := (h 0 (by omega)).1
      have hspot : spot = none := by simpa [Addr.add] using World.cell?_spot hc
      subst hspot
      refine ⟨b, off, rfl, ?_, fun i hi => ?_⟩
      · apply Nat.lt_of_not_le; intro hle
        rw [Lib.add_plain] at hc
        unfold World.cell? at hc
        simp only [Array.getElem?_eq_none hle] at hc; simp at hc
      · have hi2 : i < c := by rw [hlen] at hi; omega
        simp only [List.getElem_map, List.getElem_range]
        have := (h i hi2).1
        rw [Lib.add_plain] at this; exact this
theorem allE_rows {L : Nat} : ∀ {es : List Ent}, allE (L : Int) es = 0 → ∀ i (h : i < es.length), okB (es[i]'h).zs = true ∧ (es[i]'h).n = L
  | [], _, i, h => absurd h (Nat.not_lt_zero _)
  | e :: es, hE, i, h => by
    unfold allE at hE
    cases ok : okB e.zs with
    | false => rw [if_neg (by simp [ok])] at hE; cases hE
    | true =>
      rw [if_pos ok] at hE
      by_cases hn : (e.n : Int) = L
      · rw [if_pos hn] at hE
        match i, h with
        | 0, _ => exact ⟨ok, by show e.n = L; omega⟩
        | i + 1, h => exact allE_rows hE i (by simpa using h)
      · rw [if_neg hn] at hE; cases hE
theorem rows_of {L : Nat} {es : List Ent} (h : allE (L : Int) es = 0) : RowsOk es L := ⟨fun i hi => (allE_rows h i hi).1, fun i hi => (allE_rows h i hi).2⟩
theorem rel_comb (es : List Ent) (fs : List Int) (L : Nat) : Rel (combV es fs L) (combE es fs L) (cols es fs L) ((cols es fs L).all entB) := by
  unfold combV combE
  cases h : (cols es fs L).all entB with
  | true => exact .inl ⟨rfl, rfl, rfl⟩
  | false => exact .inr ⟨rfl, rfl, rfl⟩

set_option maxHeartbeats 800000 in
theorem combN_empty (A : Option Addr) (C : Nat) (fa : Option Addr) (fn fc : Nat) (w : World) :
    Calls Tryd.prog 32 #[.slice A 0 C, .slice fa fn fc] w (RowPost [] 13 w) := by
  go_enter Tryd.func32, Tryd.ntmps32
  go_wp2_with fail
  go_ret2
  exact .mk (Rd.nil _) (Below.refl _ _)

set_option maxHeartbeats 1600000 in
theorem combN_rows (A : Option Addr) (N C : Nat) (es : List Ent) (e0 : Ent) (fa : Option Addr) (fn fc : Nat) (fs : List Int) (E : Int) (w : World) (h : RdM w A N C es) (hf : Rd w fa fn fc fs) (hN : 0 < N) (hl0' : 0 < es.length) (he0 : e0 = es[0]) (hE : E ≠ 0) (hEE : allE (e0.n : Int) es = E) :
    Calls Tryd.prog 32 #[.slice A N C, .slice fa fn fc] w (RowPost [] E w) := by
  have hca := checkAll_any A N C es (e0.n : Int) w h
  rw [hEE] at hca
  have HCA := Lib.hid hca
  have hne : (E != 0) = true := by simpa using hE
  clear hca
  have hcf := hf.cap
  have hc := h.cap
  obtain ⟨hl, -, -, hr, hw⟩ := h
  obtain ⟨b, off, rfl, hb, hcell⟩ : ∃ b off, A = some ⟨b, off, none⟩ ∧ b < w.heap.size ∧ ∀ i (h : i < es.length), w.cell? ⟨b, off + i, none⟩ = some (.slice (es[i]'h).a (es[i]'h).n (es[i]'h).cap) := by
    rcases hw with rfl | hw
    · simp at hl; omega
    · exact hw
  have hl0 : 0 < es.length := by omega
  have hc0 : w.cell? ⟨b, off, none⟩ = some (.slice e0.a e0.n e0.cap) := by rw [he0]; exact hcell 0 hl0
  have hcap0 : e0.n ≤ e0.cap ∧ e0.cap ≤ 9223372036854775807 := by have := (hr 0 hl0).cap; rw [← he0] at this; exact this
  have hNz : ((N : Int) == 0) = false := by rw [beq_eq_false_iff_ne]; omega
  clear hf hcell hr hw hl he0 hl0 hl0' hE hEE
  go_enter Tryd.func32, Tryd.ntmps32
  go_wp2_with fail
  refine HCA.out.mono ?_
  rintro e w' ⟨rfl, rfl⟩
  go_wp2_with fail
  go_ret2
  exact .mk (Rd.nil _) (Below.refl _ _)

set_option maxHeartbeats 1600000 in
theorem combN_fac (A : Option Addr) (N C : Nat) (es : List Ent) (e0 : Ent) (fa : Option Addr) (fn fc : Nat) (fs : List Int) (w : World) (h : RdM w A N C es) (hf : Rd w fa fn fc fs) (hN : 0 < N) (hl0' : 0 < es.length) (he0 : e0 = es[0]) (hEE : allE (e0.n : Int) es = 0) (hfs : okB fs = false) :
    Calls Tryd.prog 32 #[.slice A N C, .slice fa fn fc] w (RowPost [] 4 w) := by
  have hca := checkAll_any A N C es (e0.n : Int) w h
  rw [hEE] at hca
  have HCA := Lib.hid hca
  have hck := checkN_any fa fn fc fs w hf
  rw [errR_no hfs] at hck
  have HCK := Lib.hid hck
  clear hca hck
  have hcf := hf.cap
  have hc := h.cap
  obtain ⟨hl, -, -, hr, hw⟩ := h
  obtain ⟨b, off, rfl, hb, hcell⟩ : ∃ b off, A = some ⟨b, off, none⟩ ∧ b < w.heap.size ∧ ∀ i (h : i < es.length), w.cell? ⟨b, off + i, none⟩ = some (.slice (es[i]'h).a (es[i]'h).n (es[i]'h).cap) := by
    rcases hw with rfl | hw
    · simp at hl; omega
    · exact hw
  have hl0 : 0 < es.length := by omega
  have hc0 : w.cell? ⟨b, off, none⟩ = some (.slice e0.a e0.n e0.cap) := by rw [he0]; exact hcell 0 hl0
  have hcap0 : e0.n ≤ e0.cap ∧ e0.cap ≤ 9223372036854775807 := by have := (hr 0 hl0).cap; rw [← he0] at this; exact this
  have hNz : ((N : Int) == 0) = false := by rw [beq_eq_false_iff_ne]; omega
  clear hf hcell hr hw hl he0 hl0 hl0' hEE hfs
  go_enter Tryd.func32, Tryd.ntmps32
  go_wp2_with fail
  refine HCA.out.mono ?_
  rintro e w' ⟨rfl, rfl⟩
  go_wp2_with fail
  refine HCK.out.mono ?_
  rintro e w' ⟨rfl, rfl⟩
  go_wp2_with fail
  go_ret2
  exact .mk (Rd.nil _) (Below.refl _ _)

set_option maxHeartbeats 1600000 in
theorem combN_size (A : Option Addr) (N C : Nat) (es : List Ent) (e0 : Ent) (fa : Option Addr) (fn fc : Nat) (fs : List Int) (w : World) (h : RdM w A N C es) (hf : Rd w fa fn fc fs) (hN : 0 < N) (hl0' : 0 < es.length) (he0 : e0 = es[0]) (hEE : allE (e0.n : Int) es = 0) (hfs : okB fs = true) (hne : fn ≠ N) :
    Calls Tryd.prog 32 #[.slice A N C, .slice fa fn fc] w (RowPost [] 5 w) := by
  have hca := checkAll_any A N C es (e0.n : Int) w h
  rw [hEE] at hca
  have HCA := Lib.hid hca
  have hck := checkN_any fa fn fc fs w hf
  rw [errR_ok hfs] at hck
  have HCK := Lib.hid hck
  have hnb : ((fn : Int) != (N : Int)) = true := by simp; omega
  clear hca hck
  have hcf := hf.cap
  have hc := h.cap
  obtain ⟨hl, -, -, hr, hw⟩ := h
  obtain ⟨b, off, rfl, hb, hcell⟩ : ∃ b off, A = some ⟨b, off, none⟩ ∧ b < w.heap.size ∧ ∀ i (h : i < es.length), w.cell? ⟨b, off + i, none⟩ = some (.slice (es[i]'h).a (es[i]'h).n (es[i]'h).cap) := by
    rcases hw with rfl | hw
    · simp at hl; omega
    · exact hw
  have hl0 : 0 < es.length := by omega
  have hc0 : w.cell? ⟨b, off, none⟩ = some (.slice e0.a e0.n e0.cap) := by rw [he0]; exact hcell 0 hl0
  have hcap0 : e0.n ≤ e0.cap ∧ e0.cap ≤ 9223372036854775807 := by have := (hr 0 hl0).cap; rw [← he0] at this; exact this
  have hNz : ((N : Int) == 0) = false := by rw [beq_eq_false_iff_ne]; omega
  clear hf hcell hr hw hl he0 hl0 hl0' hEE hfs
  go_enter Tryd.func32, Tryd.ntmps32
  go_wp2_with fail
  refine HCA.out.mono ?_
  rintro e w' ⟨rfl, rfl⟩
  go_wp2_with fail
  refine HCK.out.mono ?_
  rintro e w' ⟨rfl, rfl⟩
  go_wp2_with fail
  go_ret2
  exact .mk (Rd.nil _) (Below.refl _ _)

set_option maxHeartbeats 3200000 in
set_option maxRecDepth 100000 in
theorem combines_long1 (A : Option Addr) (N C : Nat) (es : List Ent) (fa : Option Addr) (fn fc : Nat) (fs : List Int) (w : World) (hs : Std w) (h : RdM w A N C es) (hf : Rd w fa fn fc fs) (hx : 6 < N) :
    Calls Tryd.prog 7 #[.slice A N C, .slice fa fn fc] w fun e w' => e = .returned (.bool true) ∧ Below w.heap.size w w' := by
  have HS := Lib.hid hs
  have hcA := h.cap
  have hcf := hf.cap
  have R1 := Lib.hid h
  have R2 := Lib.hid hf
  clear hs h hf
  go_enter Tryd.func7, Tryd.ntmps7
  go_wp2_with fail
  refine (known_any _ HS.out).mono ?_
  rintro e w1 ⟨rfl, h1⟩
  have B1 := Lib.hid h1
  clear h1
  go_wp2_with fail
  refine (known_any _ (HS.out.below B1.out)).mono ?_
  rintro e w2 ⟨rfl, h2⟩
  have B2 := Lib.hid (B1.out.trans (h2.mono B1.out.size))
  clear h2
  go_wp2_with fail
  go_ret
  exact ⟨rfl, B2.out⟩

set_option maxHeartbeats 3200000 in
set_option maxRecDepth 100000 in
theorem combines_long2 (A : Option Addr) (N C : Nat) (es : List Ent) (fa : Option Addr) (fn fc : Nat) (fs : List Int) (w : World) (hs : Std w) (h : RdM w A N C es) (hf : Rd w fa fn fc fs) (hx : N ≤ 6) (hy : 8 < fn) :
    Calls Tryd.prog 7 #[.slice A N C, .slice fa fn fc] w fun e w' => e = .returned (.bool true) ∧ Below w.heap.size w w' := by
  have HS := Lib.hid hs
  have hcA := h.cap
  have hcf := hf.cap
  have R1 := Lib.hid h
  have R2 := Lib.hid hf
  clear hs h hf
  go_enter Tryd.func7, Tryd.ntmps7
  go_wp2_with fail
  refine (known_any _ HS.out).mono ?_
  rintro e w1 ⟨rfl, h1⟩
  have B1 := Lib.hid h1
  clear h1
  go_wp2_with fail
  refine (known_any _ (HS.out.below B1.out)).mono ?_
  rintro e w2 ⟨rfl, h2⟩
  have B2 := Lib.hid (B1.out.trans (h2.mono B1.out.size))
  clear h2
  go_wp2_with fail
  go_ret
  exact ⟨rfl, B2.out⟩

set_option maxHeartbeats 3200000 in
set_option maxRecDepth 100000 in
theorem combines_empty (A : Option Addr) (N C : Nat) (es : List Ent) (fa : Option Addr) (fn fc : Nat) (fs : List Int) (w : World) (hs : Std w) (h : RdM w A N C es) (hf : Rd w fa fn fc fs) (hN6 : N ≤ 6) (hf8 : fn ≤ 8) (hN : N = 0) :
    Calls Tryd.prog 7 #[.slice A N C, .slice fa fn fc] w fun e w' => e = .returned (.bool true) ∧ Below w.heap.size w w' := by
  have HS := Lib.hid hs
  have hcA := h.cap
  have hcf := hf.cap
  subst hN
  have R1 := Lib.hid h
  have R2 := Lib.hid hf
  clear hs h hf
  go_enter Tryd.func7, Tryd.ntmps7
  go_wp2_with fail
  refine (known_any _ HS.out).mono ?_
  rintro e w1 ⟨rfl, h1⟩
  have A_1 := Lib.hid (R1.out.below h1)
  have Bb_1 := Lib.hid (R2.out.below h1)
  have B1 := Lib.hid h1
  clear h1
  go_wp2_with fail
  refine (combN_empty _ _ _ _ _ _).mono ?_
  rintro e w2 ⟨a_x, n_x, c_x, rfl, hr2, h2⟩
  have A_2 := Lib.hid (A_1.out.below h2)
  have Bb_2 := Lib.hid (Bb_1.out.below h2)
  have B2 := Lib.hid (B1.out.trans (h2.mono B1.out.size))
  have hcap_x := hr2.cap
  obtain rfl : n_x = 0 := hr2.len.symm
  have x_2 := Lib.hid hr2
  clear h2 hr2
  go_wp2_with fail
  go_ret
  exact ⟨rfl, B2.out⟩

set_option maxHeartbeats 3200000 in
set_option maxRecDepth 100000 in
theorem combines_rows (A : Option Addr) (N C : Nat) (es : List Ent) (fa : Option Addr) (fn fc : Nat) (fs : List Int) (w : World) (hs : Std w) (h : RdM w A N C es) (hf : Rd w fa fn fc fs) (hN6 : N ≤ 6) (hf8 : fn ≤ 8) (hN : 0 < N) (e0 : Ent) (hl0 : 0 < es.length) (he0 : e0 = es[0]) (E : Int) (hE0 : E ≠ 0) (hEE : allE (e0.n : Int) es = E) :
    Calls Tryd.prog 7 #[.slice A N C, .slice fa fn fc] w fun e w' => e = .returned (.bool true) ∧ Below w.heap.size w w' := by
  have HS := Lib.hid hs
  have hcA := h.cap
  have hcf := hf.cap
  have HCB := Lib.hid (fun wx h1 h2 => combN_rows A N C es e0 fa fn fc fs E wx h1 h2 hN hl0 he0 hE0 hEE)
  have HEE := Lib.hid hEE
  have hc0 : ∀ wx, RdM wx A N C es → ∃ b off, A = some ⟨b, off, none⟩ ∧ b < wx.heap.size ∧ ∀ i (h : i < es.length), wx.cell? ⟨b, off + i, none⟩ = some (.slice (es[i]'h).a (es[i]'h).n (es[i]'h).cap) := by
    intro wx hx
    rcases hx.2.2.2.2 with he | hx
    · rw [he] at hl0; exact absurd hl0 (Nat.not_lt_zero _)
    · exact hx
  have HC0 := Lib.hid hc0
  have hcap0 : e0.n ≤ e0.cap ∧ e0.cap ≤ 9223372036854775807 := by have := (h.2.2.2.1 0 hl0).cap; rw [← he0] at this; exact this
  have hNz : ((N : Int) == 0) = false := by rw [beq_eq_false_iff_ne]; omega
  have HL := Lib.hid h.1
  have HE0 := Lib.hid (show ∃ hl : 0 < es.length, e0 = es[0]'hl from ⟨hl0, he0⟩)
  clear hc0 hl0 he0 hEE
  have R1 := Lib.hid h
  have R2 := Lib.hid hf
  clear hs h hf
  go_enter Tryd.func7, Tryd.ntmps7
  go_wp2_with fail
  refine (known_any _ HS.out).mono ?_
  rintro e w1 ⟨rfl, h1⟩
  have A_1 := Lib.hid (R1.out.below h1)
  have Bb_1 := Lib.hid (R2.out.below h1)
  have B1 := Lib.hid h1
  clear h1
  go_wp2_with fail
  refine (HCB.out _ A_1.out Bb_1.out).mono ?_
  rintro e w2 ⟨a_x, n_x, c_x, rfl, hr2, h2⟩
  have A_2 := Lib.hid (A_1.out.below h2)
  have Bb_2 := Lib.hid (Bb_1.out.below h2)
  have B2 := Lib.hid (B1.out.trans (h2.mono B1.out.size))
  have hcap_x := hr2.cap
  obtain rfl : n_x = 0 := hr2.len.symm
  have x_2 := Lib.hid hr2
  clear h2 hr2
  go_wp2_with fail
  obtain ⟨b, off, rfl, hb, hcell⟩ := HC0.out _ A_2.out
  have HX := Lib.hid hcell
  have hc0 : w2.cell? ⟨b, off, none⟩ = some (.slice e0.a e0.n e0.cap) := by obtain ⟨q1, q2⟩ := HE0.out; rw [q2]; exact hcell 0 q1
  have HC1 := Lib.hid hc0
  clear hcell hc0
  go_loopw [7, 8] (fun iv _ wr => ∃ k : Nat, iv = .int .i64 k ∧ k ≤ N ∧ Hid (allE (e0.n : Int) es = allE (e0.n : Int) (es.drop k)) ∧ Below w2.heap.size w2 wr) (fun iv _ _ => N - (intOf iv).toNat)
  case atStart => exact ⟨0, rfl, Nat.zero_le _, by simp [Hid], Below.refl _ _⟩
  case round =>
    obtain ⟨k, rfl, hk, HA, hbel⟩ := hrel
    have HBL := Lib.hid hbel
    have HBT := Lib.hid (B2.out.trans (hbel.mono B2.out.size))
    have hc0 := (hbel.cell (p := ⟨b, off, none⟩) hb).trans HC1.out
    by_cases hlt : k < N
    · have hkl : k < es.length := by rw [HL.out]; exact hlt
      have hcl := (hbel.cell (p := ⟨b, off + k, none⟩) hb).trans (HX.out k hkl)
      have hrd := (A_2.out.2.2.2.1 k hkl).below hbel
      have HD := Lib.hid (allE_drop (L := (e0.n : Int)) hkl)
      obtain ⟨⟨ea, en, ec, ez⟩, he⟩ : ∃ e, e = es[k] := ⟨_, rfl⟩
      rw [← he] at hcl hrd HD
      have hec := hrd.cap
      have hck := checkR_any ea en ec ez wr hrd
      clear he hrd hbel
      cases ok : okB ez with
      | false =>
        rw [errR_no ok] at hck
        have HC := Lib.hid hck
        have h4 : E = 4 := by rw [← HEE.out, HA.out, HD.out, if_neg (by simp [ok])]
        subst h4
        clear ok hck HD
        by_cases h10 : 10 < en
        · go_wp2_with fail
          go_ret
          exact ⟨rfl, HBT.out⟩
        · go_wp2_with fail
          refine HC.out.mono ?_
          rintro e w' ⟨rfl, rfl⟩
          go_wp2_with fail
          go_quiet (fail)
          go_wp2_with fail
          go_ret
          exact ⟨rfl, below_drewN HBT.out _⟩
      | true =>
        rw [errR_ok ok] at hck
        have HC := Lib.hid hck
        clear hck
        by_cases h10 : 10 < en
        · go_wp2_with fail
          go_ret
          exact ⟨rfl, HBT.out⟩
        · by_cases hn : en = e0.n
          · have HE := Lib.hid (show allE (e0.n : Int) es = allE (e0.n : Int) (es.drop (k + 1)) by rw [HA.out, HD.out, if_pos ok, if_pos (by show (en : Int) = _; rw [hn])])
            clear ok HD
            subst hn
            go_wp2_with fail
            refine HC.out.mono ?_
            rintro e w' ⟨rfl, rfl⟩
            go_wp2_with fail
            go_quiet (fail)
            go_wp2_with fail
            go_roundw
            case rel => exact ⟨k + 1, by go_num, by omega, HE, below_drewN HBL.out _⟩
            case measure => simp [intOf]; omega
          · have h5 : E = 5 := by rw [← HEE.out, HA.out, HD.out, if_pos ok, if_neg (by show ¬ (en : Int) = _; omega)]
            subst h5
            have hnb : ((en : Int) != (e0.n : Int)) = true := by simp; omega
            clear ok HD hn
            go_wp2_with fail
            refine HC.out.mono ?_
            rintro e w' ⟨rfl, rfl⟩
            go_wp2_with fail
            go_quiet (fail)
            go_wp2_with fail
            go_ret
            exact ⟨rfl, below_drewN HBT.out _⟩
    · exfalso
      obtain rfl : k = N := by omega
      have := HA.out
      rw [HEE.out, List.drop_eq_nil_of_le (by rw [HL.out]; omega)] at this
      exact hE0 this

set_option maxHeartbeats 3200000 in
set_option maxRecDepth 100000 in
theorem combines_fac (A : Option Addr) (N C : Nat) (es : List Ent) (fa : Option Addr) (fn fc : Nat) (fs : List Int) (w : World) (hs : Std w) (h : RdM w A N C es) (hf : Rd w fa fn fc fs) (hN6 : N ≤ 6) (hf8 : fn ≤ 8) (hN : 0 < N) (e0 : Ent) (hl0 : 0 < es.length) (he0 : e0 = es[0]) (hEE : allE (e0.n : Int) es = 0) (hfs : okB fs = false) :
    Calls Tryd.prog 7 #[.slice A N C, .slice fa fn fc] w fun e w' => e = .returned (.bool true) ∧ Below w.heap.size w w' := by
  have HS := Lib.hid hs
  have hcA := h.cap
  have hcf := hf.cap
  have HCB := Lib.hid (fun wx h1 h2 => combN_fac A N C es e0 fa fn fc fs wx h1 h2 hN hl0 he0 hEE hfs)
  have HRO := Lib.hid (rows_of hEE)
  have HK := Lib.hid (fun wx h1 => checkR_any fa fn fc fs wx h1)
  rw [errR_no hfs] at HK
  have hc0 : ∀ wx, RdM wx A N C es → ∃ b off, A = some ⟨b, off, none⟩ ∧ b < wx.heap.size ∧ ∀ i (h : i < es.length), wx.cell? ⟨b, off + i, none⟩ = some (.slice (es[i]'h).a (es[i]'h).n (es[i]'h).cap) := by
    intro wx hx
    rcases hx.2.2.2.2 with he | hx
    · rw [he] at hl0; exact absurd hl0 (Nat.not_lt_zero _)
    · exact hx
  have HC0 := Lib.hid hc0
  have hcap0 : e0.n ≤ e0.cap ∧ e0.cap ≤ 9223372036854775807 := by have := (h.2.2.2.1 0 hl0).cap; rw [← he0] at this; exact this
  have hNz : ((N : Int) == 0) = false := by rw [beq_eq_false_iff_ne]; omega
  have HL := Lib.hid h.1
  have HE0 := Lib.hid (show ∃ hl : 0 < es.length, e0 = es[0]'hl from ⟨hl0, he0⟩)
  clear hc0 hl0 he0 hEE hfs
  have R1 := Lib.hid h
  have R2 := Lib.hid hf
  clear hs h hf
  go_enter Tryd.func7, Tryd.ntmps7
  go_wp2_with fail
  refine (known_any _ HS.out).mono ?_
  rintro e w1 ⟨rfl, h1⟩
  have A_1 := Lib.hid (R1.out.below h1)
  have Bb_1 := Lib.hid (R2.out.below h1)
  have B1 := Lib.hid h1
  clear h1
  go_wp2_with fail
  refine (HCB.out _ A_1.out Bb_1.out).mono ?_
  rintro e w2 ⟨a_x, n_x, c_x, rfl, hr2, h2⟩
  have A_2 := Lib.hid (A_1.out.below h2)
  have Bb_2 := Lib.hid (Bb_1.out.below h2)
  have B2 := Lib.hid (B1.out.trans (h2.mono B1.out.size))
  have hcap_x := hr2.cap
  obtain rfl : n_x = 0 := hr2.len.symm
  have x_2 := Lib.hid hr2
  clear h2 hr2
  go_wp2_with fail
  obtain ⟨b, off, rfl, hb, hcell⟩ := HC0.out _ A_2.out
  have HX := Lib.hid hcell
  have hc0 : w2.cell? ⟨b, off, none⟩ = some (.slice e0.a e0.n e0.cap) := by obtain ⟨q1, q2⟩ := HE0.out; rw [q2]; exact hcell 0 q1
  have HC1 := Lib.hid hc0
  clear hcell hc0
  go_loopw [7, 8] (fun iv _ wr => ∃ k : Nat, iv = .int .i64 k ∧ k ≤ N ∧ Hid (allE (e0.n : Int) es = allE (e0.n : Int) (es.drop k)) ∧ Below w2.heap.size w2 wr) (fun iv _ _ => N - (intOf iv).toNat)
  case atStart => exact ⟨0, rfl, Nat.zero_le _, by simp [Hid], Below.refl _ _⟩
  case round =>
    obtain ⟨k, rfl, hk, HA, hbel⟩ := hrel
    have HBL := Lib.hid hbel
    have HBT := Lib.hid (B2.out.trans (hbel.mono B2.out.size))
    have hc0 := (hbel.cell (p := ⟨b, off, none⟩) hb).trans HC1.out
    by_cases hlt : k < N
    · have hkl : k < es.length := by rw [HL.out]; exact hlt
      have hcl := (hbel.cell (p := ⟨b, off + k, none⟩) hb).trans (HX.out k hkl)
      have hrd := (A_2.out.2.2.2.1 k hkl).below hbel
      have HD := Lib.hid (allE_drop (L := (e0.n : Int)) hkl)
      have hok := (HRO.out.ok k hkl)
      have hen := (HRO.out.len k hkl)
      obtain ⟨⟨ea, en, ec, ez⟩, he⟩ : ∃ e, e = es[k] := ⟨_, rfl⟩
      rw [← he] at hcl hrd HD hok hen
      have hec := hrd.cap
      have hck := checkR_any ea en ec ez wr hrd
      clear he hrd hbel
      have hen : en = e0.n := hen
      subst hen
      have hok : okB ez = true := hok
      rw [errR_ok hok] at hck
      have HC := Lib.hid hck
      have HE := Lib.hid (show allE (e0.n : Int) es = allE (e0.n : Int) (es.drop (k + 1)) by rw [HA.out, HD.out, if_pos hok, if_pos rfl])
      clear hck hok HD
      by_cases h10 : 10 < e0.n
      · go_wp2_with fail
        go_ret
        exact ⟨rfl, HBT.out⟩
      · go_wp2_with fail
        refine HC.out.mono ?_
        rintro e w' ⟨rfl, rfl⟩
        go_wp2_with fail
        go_quiet (fail)
        go_wp2_with fail
        go_roundw
        case rel => exact ⟨k + 1, by go_num, by omega, HE, below_drewN HBL.out _⟩
        case measure => simp [intOf]; omega
    · obtain rfl : k = N := by omega
      have RA := Lib.hid (A_2.out.below hbel)
      have RB := Lib.hid (Bb_2.out.below hbel)
      clear hbel
      go_wp2_with fail
      refine (HK.out _ RB.out).mono ?_
      rintro e w11 ⟨rfl, rfl⟩
      go_wp2_with fail
      go_ret
      exact ⟨rfl, HBT.out⟩

set_option maxHeartbeats 3200000 in
set_option maxRecDepth 100000 in
theorem combines_size (A : Option Addr) (N C : Nat) (es : List Ent) (fa : Option Addr) (fn fc : Nat) (fs : List Int) (w : World) (hs : Std w) (h : RdM w A N C es) (hf : Rd w fa fn fc fs) (hN6 : N ≤ 6) (hf8 : fn ≤ 8) (hN : 0 < N) (e0 : Ent) (hl0 : 0 < es.length) (he0 : e0 = es[0]) (hEE : allE (e0.n : Int) es = 0) (hfs : okB fs = true) (hne : fn ≠ N) :
    Calls Tryd.prog 7 #[.slice A N C, .slice fa fn fc] w fun e w' => e = .returned (.bool true) ∧ Below w.heap.size w w' := by
  have HS := Lib.hid hs
  have hcA := h.cap
  have hcf := hf.cap
  have HCB := Lib.hid (fun wx h1 h2 => combN_size A N C es e0 fa fn fc fs wx h1 h2 hN hl0 he0 hEE hfs hne)
  have HRO := Lib.hid (rows_of hEE)
  have HK := Lib.hid (fun wx h1 => checkR_any fa fn fc fs wx h1)
  rw [errR_ok hfs] at HK
  have hfN : ((fn : Int) != (N : Int)) = true := by simp; omega
  have hc0 : ∀ wx, RdM wx A N C es → ∃ b off, A = some ⟨b, off, none⟩ ∧ b < wx.heap.size ∧ ∀ i (h : i < es.length), wx.cell? ⟨b, off + i, none⟩ = some (.slice (es[i]'h).a (es[i]'h).n (es[i]'h).cap) := by
    intro wx hx
    rcases hx.2.2.2.2 with he | hx
    · rw [he] at hl0; exact absurd hl0 (Nat.not_lt_zero _)
    · exact hx
  have HC0 := Lib.hid hc0
  have hcap0 : e0.n ≤ e0.cap ∧ e0.cap ≤ 9223372036854775807 := by have := (h.2.2.2.1 0 hl0).cap; rw [← he0] at this; exact this
  have hNz : ((N : Int) == 0) = false := by rw [beq_eq_false_iff_ne]; omega
  have HL := Lib.hid h.1
  have HE0 := Lib.hid (show ∃ hl : 0 < es.length, e0 = es[0]'hl from ⟨hl0, he0⟩)
  clear hc0 hl0 he0 hEE hfs
  have R1 := Lib.hid h
  have R2 := Lib.hid hf
  clear hs h hf
  go_enter Tryd.func7, Tryd.ntmps7
  go_wp2_with fail
  refine (known_any _ HS.out).mono ?_
  rintro e w1 ⟨rfl, h1⟩
  have A_1 := Lib.hid (R1.out.below h1)
  have Bb_1 := Lib.hid (R2.out.below h1)
  have B1 := Lib.hid h1
  clear h1
  go_wp2_with fail
  refine (HCB.out _ A_1.out Bb_1.out).mono ?_
  rintro e w2 ⟨a_x, n_x, c_x, rfl, hr2, h2⟩
  have A_2 := Lib.hid (A_1.out.below h2)
  have Bb_2 := Lib.hid (Bb_1.out.below h2)
  have B2 := Lib.hid (B1.out.trans (h2.mono B1.out.size))
  have hcap_x := hr2.cap
  obtain rfl : n_x = 0 := hr2.len.symm
  have x_2 := Lib.hid hr2
  clear h2 hr2
  go_wp2_with fail
  obtain ⟨b, off, rfl, hb, hcell⟩ := HC0.out _ A_2.out
  have HX := Lib.hid hcell
  have hc0 : w2.cell? ⟨b, off, none⟩ = some (.slice e0.a e0.n e0.cap) := by obtain ⟨q1, q2⟩ := HE0.out; rw [q2]; exact hcell 0 q1
  have HC1 := Lib.hid hc0
  clear hcell hc0
  go_loopw [7, 8] (fun iv _ wr => ∃ k : Nat, iv = .int .i64 k ∧ k ≤ N ∧ Hid (allE (e0.n : Int) es = allE (e0.n : Int) (es.drop k)) ∧ Below w2.heap.size w2 wr) (fun iv _ _ => N - (intOf iv).toNat)
  case atStart => exact ⟨0, rfl, Nat.zero_le _, by simp [Hid], Below.refl _ _⟩
  case round =>
    obtain ⟨k, rfl, hk, HA, hbel⟩ := hrel
    have HBL := Lib.hid hbel
    have HBT := Lib.hid (B2.out.trans (hbel.mono B2.out.size))
    have hc0 := (hbel.cell (p := ⟨b, off, none⟩) hb).trans HC1.out
    by_cases hlt : k < N
    · have hkl : k < es.length := by rw [HL.out]; exact hlt
      have hcl := (hbel.cell (p := ⟨b, off + k, none⟩) hb).trans (HX.out k hkl)
      have hrd := (A_2.out.2.2.2.1 k hkl).below hbel
      have HD := Lib.hid (allE_drop (L := (e0.n : Int)) hkl)
      have hok := (HRO.out.ok k hkl)
      have hen := (HRO.out.len k hkl)
      obtain ⟨⟨ea, en, ec, ez⟩, he⟩ : ∃ e, e = es[k] := ⟨_, rfl⟩
      rw [← he] at hcl hrd HD hok hen
      have hec := hrd.cap
      have hck := checkR_any ea en ec ez wr hrd
      clear he hrd hbel
      have hen : en = e0.n := hen
      subst hen
      have hok : okB ez = true := hok
      rw [errR_ok hok] at hck
      have HC := Lib.hid hck
      have HE := Lib.hid (show allE (e0.n : Int) es = allE (e0.n : Int) (es.drop (k + 1)) by rw [HA.out, HD.out, if_pos hok, if_pos rfl])
      clear hck hok HD
      by_cases h10 : 10 < e0.n
      · go_wp2_with fail
        go_ret
        exact ⟨rfl, HBT.out⟩
      · go_wp2_with fail
        refine HC.out.mono ?_
        rintro e w' ⟨rfl, rfl⟩
        go_wp2_with fail
        go_quiet (fail)
        go_wp2_with fail
        go_roundw
        case rel => exact ⟨k + 1, by go_num, by omega, HE, below_drewN HBL.out _⟩
        case measure => simp [intOf]; omega
    · obtain rfl : k = N := by omega
      have RA := Lib.hid (A_2.out.below hbel)
      have RB := Lib.hid (Bb_2.out.below hbel)
      clear hbel
      go_wp2_with fail
      refine (HK.out _ RB.out).mono ?_
      rintro e w11 ⟨rfl, rfl⟩
      go_wp2_with fail
      go_ret
      exact ⟨rfl, HBT.out⟩

set_option maxHeartbeats 3200000 in
set_option maxRecDepth 100000 in
theorem combines_good (A : Option Addr) (N C : Nat) (es : List Ent) (fa : Option Addr) (fn fc : Nat) (fs : List Int) (w : World) (hs : Std w) (h : RdM w A N C es) (hf : Rd w fa fn fc fs) (hN6 : N ≤ 6) (hf8 : fn ≤ 8) (hN : 0 < N) (e0 : Ent) (hl0 : 0 < es.length) (he0 : e0 = es[0]) (hEE : allE (e0.n : Int) es = 0) (hfs : okB fs = true) (hne : N = fn) :
    Calls Tryd.prog 7 #[.slice A N C, .slice fa fn fc] w fun e w' => e = .returned (.bool true) ∧ Below w.heap.size w w' := by
  have HS := Lib.hid hs
  have hcA := h.cap
  have hcf := hf.cap
  subst hne
  have HRO := Lib.hid (rows_of hEE)
  have hL64 : e0.n ≤ 64 := by
    have h1 := okB_len ((rows_of hEE).ok 0 hl0)
    have h2 := (h.2.2.2.1 0 hl0).len
    rw [← he0] at h1 h2; omega
  have HCB := Lib.hid (fun wx h1 h2 => combN_good A N C es e0.n fa fc fs wx h1 h2 HRO.out hfs hN hL64)
  have HRC := Lib.hid (fun wx h1 h2 => combR_any A N C es e0.n fa N fc fs wx h1 h2 HRO.out hfs hN (Nat.le_refl _) hL64)
  have HK := Lib.hid (fun wx h1 => checkR_any fa N fc fs wx h1)
  rw [errR_ok hfs] at HK
  have hfN : ((N : Int) != (N : Int)) = false := by simp
  obtain ⟨CV, hCV⟩ : ∃ V, V = combV es fs e0.n := ⟨_, rfl⟩
  obtain ⟨CE, hCE⟩ : ∃ V, V = combE es fs e0.n := ⟨_, rfl⟩
  obtain ⟨CO, hCO⟩ : ∃ V, V = (cols es fs e0.n).all entB := ⟨_, rfl⟩
  have hrc := rel_comb es fs e0.n
  rw [← hCV, ← hCE] at HCB hrc
  rw [← hCO] at HRC hrc
  have HSM := Lib.hid (fun wx a n c a' n' c' h1 h2 => same_any a n c CV CE a' n' c' _ CO wx h1 h2 hrc)
  clear hCV hCE hCO hrc
  have hc0 : ∀ wx, RdM wx A N C es → ∃ b off, A = some ⟨b, off, none⟩ ∧ b < wx.heap.size ∧ ∀ i (h : i < es.length), wx.cell? ⟨b, off + i, none⟩ = some (.slice (es[i]'h).a (es[i]'h).n (es[i]'h).cap) := by
    intro wx hx
    rcases hx.2.2.2.2 with he | hx
    · rw [he] at hl0; exact absurd hl0 (Nat.not_lt_zero _)
    · exact hx
  have HC0 := Lib.hid hc0
  have hcap0 : e0.n ≤ e0.cap ∧ e0.cap ≤ 9223372036854775807 := by have := (h.2.2.2.1 0 hl0).cap; rw [← he0] at this; exact this
  have hNz : ((N : Int) == 0) = false := by rw [beq_eq_false_iff_ne]; omega
  have HL := Lib.hid h.1
  have HE0 := Lib.hid (show ∃ hl : 0 < es.length, e0 = es[0]'hl from ⟨hl0, he0⟩)
  clear hc0 hl0 he0 hEE hfs
  have R1 := Lib.hid h
  have R2 := Lib.hid hf
  clear hs h hf
  go_enter Tryd.func7, Tryd.ntmps7
  go_wp2_with fail
  refine (known_any _ HS.out).mono ?_
  rintro e w1 ⟨rfl, h1⟩
  have A_1 := Lib.hid (R1.out.below h1)
  have Bb_1 := Lib.hid (R2.out.below h1)
  have B1 := Lib.hid h1
  clear h1
  go_wp2_with fail
  refine (HCB.out _ A_1.out Bb_1.out).mono ?_
  rintro e w2 ⟨a_x, n_x, c_x, rfl, hr2, h2⟩
  have A_2 := Lib.hid (A_1.out.below h2)
  have Bb_2 := Lib.hid (Bb_1.out.below h2)
  have B2 := Lib.hid (B1.out.trans (h2.mono B1.out.size))
  have hcap_x := hr2.cap
  have x_2 := Lib.hid hr2
  clear h2 hr2
  go_wp2_with fail
  obtain ⟨b, off, rfl, hb, hcell⟩ := HC0.out _ A_2.out
  have HX := Lib.hid hcell
  have hc0 : w2.cell? ⟨b, off, none⟩ = some (.slice e0.a e0.n e0.cap) := by obtain ⟨q1, q2⟩ := HE0.out; rw [q2]; exact hcell 0 q1
  have HC1 := Lib.hid hc0
  clear hcell hc0
  go_loopw [7, 8] (fun iv _ wr => ∃ k : Nat, iv = .int .i64 k ∧ k ≤ N ∧ Hid (allE (e0.n : Int) es = allE (e0.n : Int) (es.drop k)) ∧ Below w2.heap.size w2 wr) (fun iv _ _ => N - (intOf iv).toNat)
  case atStart => exact ⟨0, rfl, Nat.zero_le _, by simp [Hid], Below.refl _ _⟩
  case round =>
    obtain ⟨k, rfl, hk, HA, hbel⟩ := hrel
    have HBL := Lib.hid hbel
    have HBT := Lib.hid (B2.out.trans (hbel.mono B2.out.size))
    have hc0 := (hbel.cell (p := ⟨b, off, none⟩) hb).trans HC1.out
    by_cases hlt : k < N
    · have hkl : k < es.length := by rw [HL.out]; exact hlt
      have hcl := (hbel.cell (p := ⟨b, off + k, none⟩) hb).trans (HX.out k hkl)
      have hrd := (A_2.out.2.2.2.1 k hkl).below hbel
      have HD := Lib.hid (allE_drop (L := (e0.n : Int)) hkl)
      have hok := (HRO.out.ok k hkl)
      have hen := (HRO.out.len k hkl)
      obtain ⟨⟨ea, en, ec, ez⟩, he⟩ : ∃ e, e = es[k] := ⟨_, rfl⟩
      rw [← he] at hcl hrd HD hok hen
      have hec := hrd.cap
      have hck := checkR_any ea en ec ez wr hrd
      clear he hrd hbel
      have hen : en = e0.n := hen
      subst hen
      have hok : okB ez = true := hok
      rw [errR_ok hok] at hck
      have HC := Lib.hid hck
      have HE := Lib.hid (show allE (e0.n : Int) es = allE (e0.n : Int) (es.drop (k + 1)) by rw [HA.out, HD.out, if_pos hok, if_pos rfl])
      clear hck hok HD
      by_cases h10 : 10 < e0.n
      · go_wp2_with fail
        go_ret
        exact ⟨rfl, HBT.out⟩
      · go_wp2_with fail
        refine HC.out.mono ?_
        rintro e w' ⟨rfl, rfl⟩
        go_wp2_with fail
        go_quiet (fail)
        go_wp2_with fail
        go_roundw
        case rel => exact ⟨k + 1, by go_num, by omega, HE, below_drewN HBL.out _⟩
        case measure => simp [intOf]; omega
    · obtain rfl : k = N := by omega
      have RA := Lib.hid (A_2.out.below hbel)
      have RB := Lib.hid (Bb_2.out.below hbel)
      have RX := Lib.hid (x_2.out.below hbel)
      clear hbel
      go_wp2_with fail
      refine (HK.out _ RB.out).mono ?_
      rintro e w11 ⟨rfl, rfl⟩
      go_wp2_with fail
      refine (HRC.out _ RA.out RB.out).mono ?_
      rintro e w12 ⟨a_y, n_y, c_y, rfl, hr12, h12⟩
      have A_12 := Lib.hid (RA.out.below h12)
      have Bb_12 := Lib.hid (RB.out.below h12)
      have x_12 := Lib.hid (RX.out.below h12)
      have B12 := Lib.hid (HBT.out.trans (h12.mono HBT.out.size))
      have hcap_y := hr12.cap
      have y_12 := Lib.hid hr12
      clear h12 hr12
      go_wp2_with fail
      refine (HSM.out _ _ _ _ _ _ _ x_12.out y_12.out).mono ?_
      rintro e w13 ⟨rfl, h13⟩
      have A_13 := Lib.hid (A_12.out.below h13)
      have Bb_13 := Lib.hid (Bb_12.out.below h13)
      have x_13 := Lib.hid (x_12.out.below h13)
      have y_13 := Lib.hid (y_12.out.below h13)
      have B13 := Lib.hid (B12.out.trans (h13.mono B12.out.size))
      clear h13
      go_wp2_with fail
      go_ret
      exact ⟨rfl, B13.out⟩

theorem combines_law (A : Option Addr) (N C : Nat) (es : List Ent) (fa : Option Addr) (fn fc : Nat) (fs : List Int) (w : World) (hs : Std w) (h : RdM w A N C es) (hf : Rd w fa fn fc fs) :
    Calls Tryd.prog 7 #[.slice A N C, .slice fa fn fc] w fun e w' => e = .returned (.bool true) ∧ Below w.heap.size w w' := by
  by_cases h6 : N ≤ 6
  · by_cases h8 : fn ≤ 8
    · by_cases hN : N = 0
      · exact combines_empty A N C es fa fn fc fs w hs h hf h6 h8 hN
      · have hN : 0 < N := by omega
        have hl0 : 0 < es.length := by rw [h.1]; exact hN
        by_cases hE : allE ((es[0]).n : Int) es = 0
        · cases ok : okB fs with
          | false => exact combines_fac A N C es fa fn fc fs w hs h hf h6 h8 hN es[0] hl0 rfl hE ok
          | true =>
            by_cases hfn : fn = N
            · exact combines_good A N C es fa fn fc fs w hs h hf h6 h8 hN es[0] hl0 rfl hE ok hfn.symm
            · exact combines_size A N C es fa fn fc fs w hs h hf h6 h8 hN es[0] hl0 rfl hE ok hfn
        · exact combines_rows A N C es fa fn fc fs w hs h hf h6 h8 hN es[0] hl0 rfl _ hE rfl
    · exact combines_long2 A N C es fa fn fc fs w hs h hf h6 (by omega)
  · exact combines_long1 A N C es fa fn fc fs w hs h hf (by omega)
end Go.Proofs.YtgcddiakdmddjaaDoor
