/-
  The contracts of bitLength and Bits.
-/
import Derived.Test.YtfhmdlpjeiockaaDoorNum
import Derived.Laws.Bits64
namespace Go.Proofs.YtfhmdlpjeiockaaDoor
open Go.RowKit

/-- k is the number of binary digits of N -/
def BitsOf (N k : Nat) : Prop := N < 2 ^ k ∧ (k = 0 ∨ 2 ^ (k - 1) ≤ N)
theorem BitsOf.unique {N k m : Nat} (h : BitsOf N k) (h' : BitsOf N m) : k = m := by
  have aux : ∀ {a b : Nat}, BitsOf N a → BitsOf N b → a ≤ b := fun {a b} ha hb => by
    apply Nat.le_of_not_lt; intro hlt
    rcases ha.2 with h0 | h1
    · omega
    · have h2 : 2 ^ b ≤ 2 ^ (a - 1) := Nat.pow_le_pow_right (by decide) (by omega)
      have := hb.1; omega
  exact Nat.le_antisymm (aux h h') (aux h' h)
theorem BitsOf.zero : BitsOf 0 0 := ⟨by decide, .inl rfl⟩
theorem bitsOf_bitLen {n : Nat} (h : n < 18446744073709551616) : BitsOf n (Lib.bitLen n) := by
  by_cases h0 : n = 0
  · subst h0; exact ⟨by decide, .inl (by decide)⟩
  · have h1 := Lib.bitLenAux_bounds 64 n (by omega) h0
    exact ⟨h1.2.2, .inr h1.2.1⟩
theorem BitsOf.shift {N j k : Nat} (h : BitsOf (N / 2 ^ j) k) (h0 : 0 < N / 2 ^ j) : BitsOf N (k + j) := by
  have hp : 0 < 2 ^ j := Nat.pow_pos (by decide)
  have hk : k ≠ 0 := by intro e; subst e; have := h.1; rw [Nat.pow_zero] at this; omega
  obtain ⟨h1, h2⟩ := h
  refine ⟨?_, .inr ?_⟩
  · rw [Nat.pow_add]; exact (Nat.div_lt_iff_lt_mul hp).1 h1
  · rcases h2 with h2 | h2
    · exact absurd h2 hk
    · rw [show k + j - 1 = (k - 1) + j by omega, Nat.pow_add]; exact (Nat.le_div_iff_mul_le hp).1 h2
theorem take_set {L Q : List Nat} {j v : Nat} (hj : j < L.length) : (L.take (j + 1) ++ Q).set j v = L.take j ++ (v :: Q) := by
  have hl : (L.take j).length = j := by rw [List.length_take]; omega
  rw [List.take_succ_eq_append_getElem hj, List.append_assoc, List.set_append_right _ _ (by omega), hl, Nat.sub_self]; rfl
theorem take_at {L Q : List Nat} {j : Nat} (hj : j < L.length) (h : j < (L.take (j + 1) ++ Q).length) : (L.take (j + 1) ++ Q)[j]'h = L[j] := by
  rw [List.getElem_append_left (by rw [List.length_take]; omega), List.getElem_take]
theorem and_mask (T : Nat) (h : T < 18446744073709551616) : bits BinOp.and IntKind.u64 (T : Int) 4294967295 = ((T % 4294967296 : Nat) : Int) := by
  have := bits_and_u64_nat T 4294967295 (by omega) (by omega)
  rw [show (4294967295 : Nat) = 2 ^ 32 - 1 from rfl, Nat.and_two_pow_sub_one_eq_mod] at this
  exact this

set_option maxHeartbeats 6400000 in
set_option maxRecDepth 100000 in
theorem bitLength_any (B g cap : Nat) (l : List Nat) (w : World) (hB : B ≤ w.heap.size) (h : Row w B g cap l) (h9 : lt9 l) (ht : top l) (hlen : l.length ≤ 200000) :
    Calls Tryd.prog 40 #[.slice (some ⟨g, 0, none⟩) l.length cap] w fun e w' => ∃ k : Nat, e = .returned (.int .i64 k) ∧ BitsOf (pv l) k ∧ Below B w w' := by
  have hgB := h.lt.1
  have H := Lib.hid h
  have H9 := Lib.hid h9
  have HT := Lib.hid ht
  have hlc := h.len_cap
  unfold maxLen at hlc
  clear h h9 ht
  go_enter Tryd.func40, Tryd.ntmps40
  go_wp2_with fail
  go_loopw [0, 3, 4, 5, 6, 7] (fun pvv cv _ _ _ _ wr => ∃ (L : List Nat) (c : Nat), pvv = .slice (some ⟨g, 0, none⟩) L.length cap ∧ cv = .int .i64 c ∧ c + 32 * L.length ≤ 32 * l.length ∧ L.length ≤ l.length ∧ Hid (lt9 L ∧ top L ∧ ∀ k, BitsOf (pv L) k → BitsOf (pv l) (k + c)) ∧ Row wr B g cap L ∧ Below B w wr) (fun pvv _ _ _ _ _ _ => match pvv with | .slice _ n _ => n | _ => 0)
  case atStart => exact ⟨l, 0, rfl, rfl, by omega, Nat.le_refl _, ⟨H9.out, HT.out, fun k hk => hk⟩, H.out, Below.refl _ _⟩
  case round =>
    obtain ⟨L, c, rfl, rfl, hc, hL, HI, hrow, hbel⟩ := hrel
    have hBr : B ≤ wr.heap.size := by have := hbel.size; omega
    by_cases h2 : L.length ≤ 2
    · have HS := Lib.hid (short_yes B g cap L wr hrow h2 HI.out.1)
      have hlt : pv L < 18446744073709551616 := by
        have h3 := pv_lt L HI.out.1
        have h4 : (1000000000 : Nat) ^ L.length ≤ 1000000000 ^ 2 := Nat.pow_le_pow_right (by decide) h2
        omega
      have hbl := fun wx => Tryd.bits_Len64 ((pv L : Nat) : Int) wx (by omega) (by omega)
      rw [Int.toNat_natCast] at hbl
      have HBL := Lib.hid hbl
      have hk64 := Lib.bitLen_le (pv L) 64 (by decide) hlt
      have HK := Lib.hid (HI.out.2.2 _ (bitsOf_bitLen hlt))
      have HB := Lib.hid hbel
      obtain ⟨n, hn⟩ : ∃ n : Nat, n = pv L := ⟨_, rfl⟩
      obtain ⟨m, hm⟩ : ∃ m : Nat, m = Lib.bitLen (pv L) := ⟨_, rfl⟩
      rw [← hm] at HBL HK hk64
      rw [← hn] at HS HBL
      clear hbl hlt hbel hrow hn hm
      go_wp2_with fail
      refine HS.out.mono ?_
      rintro e w1 ⟨rfl, hb1⟩
      have HB1 := Lib.hid (HB.out.trans (hb1.mono hBr))
      clear hb1
      go_wp2_with fail
      refine (HBL.out _).mono ?_
      rintro e w2 ⟨rfl, hw⟩
      obtain rfl := hw.symm
      go_wp2_with fail
      go_ret
      exact ⟨m + c, by rw [Int.natCast_add, Int.add_comm]; rfl, HK.out, HB1.out⟩
    · have HS := Lib.hid (short_no B g cap L wr hrow (by omega))
      have hrow' := hrow
      have HR := Lib.hid hrow
      have HB := Lib.hid hbel
      have hlcL := hrow.len_cap
      unfold maxLen at hlcL
      clear hrow hrow' hbel
      go_wp2_with fail
      refine HS.out.mono ?_
      rintro e w1 ⟨rfl, rfl⟩
      go_wp2_with fail
      go_loopw [6, 7] (fun rv iv wx => ∃ (k r : Nat) (E : Int), iv = .int .i64 E ∧ k ≤ L.length ∧ -1 ≤ E ∧ E < L.length ∧ rv = .int .u64 r ∧ r < 4294967296 ∧ Hid (E = (k : Int) - 1 ∧ r = (divS 4294967296 (L.drop k)).2) ∧ Row wx B g cap (L.take k ++ (divS 4294967296 (L.drop k)).1) ∧ Below B w wx) (fun _ iv _ => (intOf iv + 1).toNat)
      case atStart =>
        refine ⟨L.length, 0, (L.length : Int) - 1, rfl, Nat.le_refl _, by omega, by omega, rfl, by omega, ⟨rfl, ?_⟩, ?_, HB.out⟩
        · rw [List.drop_length]; rfl
        · rw [List.drop_length, List.take_length]; simpa [divS] using HR.out
      case round =>
        obtain ⟨k, r, E, rfl, hk, hE1, hE2, rfl, hr, HJ, hrow, hbel⟩ := hrel
        have hkE := HJ.1
        by_cases hE : 0 ≤ E
        · obtain ⟨j, rfl⟩ : ∃ j : Nat, E = j := ⟨E.toNat, by omega⟩
          obtain rfl : k = j + 1 := by omega
          have hj : j < L.length := by omega
          have hjl : j < (L.take (j + 1) ++ (divS 4294967296 (L.drop (j + 1))).1).length := by rw [List.length_append, List.length_take]; omega
          have hcell := hrow.cell j hjl
          rw [take_at hj hjl] at hcell
          have hfree := hrow.free j
          have hx9 := lt9_at HI.out.1 j hj
          have hds := divS_drop 4294967296 L j hj
          obtain ⟨x, hx⟩ : ∃ x : Nat, x = L[j] := ⟨_, rfl⟩
          rw [← hx] at hcell hx9 hds
          rw [← HJ.2] at hds
          obtain ⟨T, hT⟩ : ∃ T : Nat, T = r * 1000000000 + x := ⟨_, rfl⟩
          have hTi : (r : Int) * 1000000000 + (x : Int) = (T : Int) := by omega
          have hTb : T < 4294967296000000000 := by omega
          rw [← hT] at hds
          have hset := hrow.set j (T / 4294967296)
          rw [take_set hj] at hset
          have hand := and_mask T (by omega)
          obtain ⟨d, hd⟩ : ∃ d : Nat, d = T / 4294967296 := ⟨_, rfl⟩
          obtain ⟨m, hm⟩ : ∃ m : Nat, m = T % 4294967296 := ⟨_, rfl⟩
          have hmM : m < 4294967296 := by omega
          rw [← hd, ← hm] at hds
          rw [← hd] at hset
          rw [← hm] at hand
          have HDS := Lib.hid hds
          have HSET := Lib.hid hset
          have HB2 := Lib.hid hbel
          have HD := Lib.hid hd
          clear hds hset hbel hrow hd hm hx hT hjl hkE
          go_wp2_with fail
          all_goals go_roundw
          case rel =>
            have e := HSET.out
            have ed : ((d : Nat) : Int) = (T : Int) / 4294967296 := by rw [HD.out]; omega
            rw [ed] at e
            exact ⟨j, m, (j : Int) - 1, rfl, by omega, by omega, by omega, rfl, hmM, ⟨rfl, by rw [HDS.out]⟩, by rw [HDS.out]; exact e, HB2.out.setCell hgB _⟩
          case measure => simp [intOf] <;> omega
        · obtain rfl : k = 0 := by omega
          have hrow2 : Row wr B g cap (divS 4294967296 L).1 := by have := hrow; rw [List.take_zero, List.drop_zero, List.nil_append] at this; exact this
          have hdl := divS_len 4294967296 L
          have hpr := divS_props 4294967296 (by decide) L
          have hq : pv (divS 4294967296 L).1 = pv L / 4294967296 := by
            rw [← hpr.1, Nat.mul_comm, Nat.mul_add_div (by decide), Nat.div_eq_of_lt hpr.2, Nat.add_zero]
          have htr := trim_any B g cap (divS 4294967296 L).1 wr hrow2
          rw [hdl] at htr
          have hpcs := Pcs.of_trim (divS_lt9 4294967296 (by decide) L HI.out.1)
          rw [hq] at hpcs
          obtain ⟨L', hL'⟩ : ∃ L', L' = trimP (divS 4294967296 L).1 := ⟨_, rfl⟩
          have hrow3 : Row wr B g cap L' := by
            have := hrow2.take (trimP (divS 4294967296 L).1).length (trimP_props _).2.2.2.1
            rw [← (trimP_props (divS 4294967296 L).1).2.2.2.2] at this; rw [hL']; exact this
          rw [← hL'] at htr hpcs
          have hlen' : L'.length ≤ L.length - 1 := by
            refine hpcs.len_of_lt ?_
            rw [Nat.div_lt_iff_lt_mul (by decide)]
            have h3 := pv_lt L HI.out.1
            have h4 : (1000000000 : Nat) ^ L.length = 1000000000 ^ (L.length - 1) * 1000000000 := by
              conv => lhs; rw [show L.length = L.length - 1 + 1 by omega]
              rw [Nat.pow_succ]
            omega
          have hlow : 0 < pv L / 2 ^ 32 := by
            have h5 := (Pcs.mk (a := pv L) rfl HI.out.1 HI.out.2.1).len_lower (by intro e; rw [e] at h2; simp at h2)
            have h6 : (1000000000 : Nat) ^ 2 ≤ 1000000000 ^ (L.length - 1) := Nat.pow_le_pow_right (by decide) (by omega)
            exact Nat.div_pos (by omega) (by decide)
          have hnew : lt9 L' ∧ top L' ∧ ∀ k, BitsOf (pv L') k → BitsOf (pv l) (k + (c + 32)) := by
            refine ⟨hpcs.lt, hpcs.top, fun k hk => ?_⟩
            rw [hpcs.val] at hk
            have := HI.out.2.2 _ (BitsOf.shift (j := 32) hk hlow)
            rw [show k + (c + 32) = k + 32 + c by omega]; exact this
          have HTR := Lib.hid htr
          have HROW := Lib.hid hrow3
          have HNEW := Lib.hid hnew
          have HB2 := Lib.hid hbel
          clear hrow hrow2 hrow3 hdl hpr hq htr hpcs hL' hlow hnew hbel hkE
          go_wp2_with fail
          refine HTR.out.mono ?_
          rintro e w1 ⟨rfl, rfl⟩
          go_wp2_with fail
          all_goals go_roundw
          case rel => exact ⟨L', c + 32, rfl, by go_num, by omega, by omega, HNEW.out, HROW.out, HB2.out⟩
          case measure => simp <;> omega

set_option maxHeartbeats 1600000 in
theorem bits_any (a : Nat) (w : World) (hs : Std w) (ha : (str a).size ≤ 450000) :
    Calls Tryd.prog 19 #[.string (str a)] w fun e w' => ∃ k : Nat, e = .returned (.int .i64 k) ∧ BitsOf a k ∧ Below w.heap.size w w' := by
  by_cases h : a < 18446744073709551616
  · exact (bits_small a h w).mono fun e w' ⟨he, hb⟩ => ⟨_, he, bitsOf_bitLen h, hb⟩
  · have HS := Lib.hid (small_no a h w hs)
    have HC := Lib.hid (fun wx => cut_any (str a) wx (by omega) (canon_str a))
    rw [val_str] at HC
    clear h
    go_enter Tryd.func19, Tryd.ntmps19
    go_wp2_with fail
    refine HS.out.mono ?_
    rintro e w1 ⟨rfl, h1⟩
    go_wp2_with fail
    refine (HC.out _).mono ?_
    rintro e w2 ⟨g, cap, p, rfl, hp, hr, h2⟩
    have hlp := hp.len_le (n := 50000) (by omega)
    have HBL := Lib.hid (bitLength_any _ g cap p w2 h2.size hr hp.lt hp.top (by omega))
    rw [hp.val] at HBL
    clear hp hr
    go_wp2_with fail
    refine HBL.out.mono ?_
    rintro e w3 ⟨k, rfl, hk, h3⟩
    have HK := Lib.hid hk
    clear hk
    go_wp2_with fail
    go_ret
    exact ⟨k, rfl, HK.out, (h1.trans (h2.mono h1.size)).trans (h3.mono h1.size)⟩
end Go.Proofs.YtfhmdlpjeiockaaDoor
