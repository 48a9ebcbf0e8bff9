/-
  Slices of bytes that came in; the contract of Make.
-/
import Derived.Test.YtfhmdlpjeiockaaDoorJoin
import Derived.OpenShut
namespace Go.Proofs.YtfhmdlpjeiockaaDoor
open Go.RowKit

/-- what the walk is told of a slice of integers that came in -/
def IsRow (k : IntKind) (w : World) (a : Option Addr) (len cap : Nat) (zs : List Int) : Prop :=
  (a = none ∧ len = 0 ∧ cap = 0 ∧ zs = []) ∨
  ∃ x, a = some x ∧ len ≤ cap ∧ cap ≤ maxLen ∧ zs.length = cap ∧ (∀ i, i < zs.length → w.cell? (x.add i) = some (.int k (zs.getD i 0))) ∧ ∀ n ∈ zs, (Lit.int k n).wf = true
theorem IsRow.below {k : IntKind} {w w' : World} {a : Option Addr} {len cap : Nat} {zs : List Int} (h : IsRow k w a len cap zs) (hb : Below w.heap.size w w') : IsRow k w' a len cap zs := by
  rcases h with h | ⟨x, h1, h2, h3, h4, h5, h6⟩
  · exact .inl h
  · refine .inr ⟨x, h1, h2, h3, h4, fun i hi => ?_, h6⟩
    have hc := h5 i hi
    have hlt : (x.add i).block < w.heap.size := by
      apply Nat.lt_of_not_le; intro hle
      unfold World.cell? at hc
      rw [Array.getElem?_eq_none hle] at hc; simp at hc
    rw [hb.cell hlt]; exact hc
/-- the first len cells are bytes -/
theorem IsRow.cells {w : World} {a : Option Addr} {len cap : Nat} {zs : List Int} (h : IsRow .u8 w a len cap zs) (h0 : 0 < len) :
    ∃ b off, a = some ⟨b, off, none⟩ ∧ len ≤ cap ∧ cap ≤ maxLen ∧ ∀ i, i < len → ∃ z : Nat, z ≤ 255 ∧ w.cell? ⟨b, off + i, none⟩ = some (.int .u8 (z : Int)) := by
  rcases h with ⟨_, h, _⟩ | ⟨x, rfl, h2, h3, h4, h5, h6⟩
  · omega
  · obtain ⟨b, off, spot⟩ := x
    have hc := h5 0 (by omega)
    have hspot : spot = none := by simpa [Addr.add] using World.cell?_spot hc
    subst hspot
    refine ⟨b, off, rfl, h2, h3, fun i hi => ?_⟩
    have hi' : i < zs.length := by omega
    have hm : zs.getD i 0 ∈ zs := by rw [List.getD_eq_getElem?_getD, List.getElem?_eq_getElem hi']; exact List.getElem_mem _
    have hbd := bounds_u8 (h6 _ hm)
    refine ⟨(zs.getD i 0).toNat, by omega, ?_⟩
    have := h5 i hi'
    rw [Lib.add_plain] at this
    rw [this, Int.toNat_of_nonneg hbd.1]

theorem c8_append (l m : List UInt8) : c8 (l ++ m) = c8 l ++ c8 m := by simp [c8]
structure Digs (k : Nat) (L : List UInt8) : Prop where
  all : L.all isD = true
  head : L = [] ∨ L.head? ≠ some 48
  len : L.length ≤ k
theorem Digs.canon {k : Nat} {L : List UInt8} (h : Digs k L) (h0 : L ≠ []) : canonL L = true := by
  rcases h.head with h1 | h1
  · exact absurd h1 h0
  · unfold canonL headOk
    have h2 : L.isEmpty = false := by simpa using h0
    have h3 : (L.head? == some 48) = false := by simpa using h1
    rw [h.all, h2, h3]; simp
theorem Digs.snoc {k : Nat} {L : List UInt8} (h : Digs k L) (d : Nat) (hd : d < 10) (h0 : 0 < d ∨ L ≠ []) : Digs (k + 1) (L ++ [UInt8.ofNat (48 + d)]) := by
  refine ⟨?_, .inr ?_, by have := h.len; simp; omega⟩
  · rw [List.all_append, h.all, List.all_cons, ofNat_isD hd]; rfl
  · cases L with
    | nil =>
      intro e
      have e1 : UInt8.ofNat (48 + d) = 48 := by simpa using e
      have := congrArg UInt8.toNat e1
      rw [ofNat_dig hd] at this; simp at this; simp at h0; omega
    | cons c l => rcases h.head with h1 | h1
                  · cases h1
                  · simpa using h1
theorem Digs.mono {k k' : Nat} {L : List UInt8} (h : Digs k L) (hk : k ≤ k') : Digs k' L := ⟨h.all, h.head, by have := h.len; omega⟩
theorem Digs.lt {k : Nat} {L : List UInt8} (h : Digs k L) : val L < 10 ^ k := by
  have h1 := val_lt L h.all
  have h2 : 10 ^ L.length ≤ 10 ^ k := Nat.pow_le_pow_right (by decide) h.len
  omega

set_option maxHeartbeats 3200000 in
set_option maxRecDepth 100000 in
theorem make_any (a : Option Addr) (len cap : Nat) (zs : List Int) (w : World) (h : IsRow .u8 w a len cap zs) :
    Calls Tryd.prog 7 #[.slice a len cap] w fun e w' => ∃ n : Nat, e = .returned (.string (str n)) ∧ n < 10 ^ (min len 120) ∧ Below w.heap.size w w' := by
  by_cases h0 : len = 0
  · subst h0
    have hs : str 0 = ⟨#[48]⟩ := (str_eq 0 (by decide) (by decide)).symm
    clear h
    go_enter Tryd.func7, Tryd.ntmps7
    go_wp2_with fail
    refine wp_loop_rounds 1 ?_
    rw [rounds_succ]
    go_wp2_with fail
    go_ret
    exact ⟨0, ret_str hs.symm, by decide, Below.refl _ _⟩
  · obtain ⟨b, off, rfl, hlc, hcm, hcells⟩ := h.cells (by omega)
    unfold maxLen at hcm
    obtain ⟨i0, hi, hz0, hz1, hz2⟩ := info_parts info8
    have hbw : b < w.heap.size := by
      obtain ⟨z, _, hz⟩ := hcells 0 (by omega)
      apply Nat.lt_of_not_le; intro hle
      unfold World.cell? at hz
      simp only [Array.getElem?_eq_none hle] at hz; simp at hz
    have HC := Lib.hid (fun (wx : World) (hw : Below w.heap.size w wx) (i : Nat) (hi : i < len) => (show ∃ z : Nat, z ≤ 255 ∧ wx.cell? ⟨b, off + i, none⟩ = some (.int .u8 (z : Int)) by
      obtain ⟨z, h1, h2⟩ := hcells i hi
      exact ⟨z, h1, by rw [hw.cell hbw]; exact h2⟩))
    clear hcells h
    go_enter Tryd.func7, Tryd.ntmps7
    go_wp2_with fail
    go_loopw [3, 4, 5] (fun v iv _ wr => ∃ (k : Nat) (vo : Option Addr) (vc : Nat) (L : List UInt8), iv = .int .i64 k ∧ k ≤ len ∧ k ≤ 120 ∧ v = .slice vo L.length vc ∧ L.length ≤ 120 ∧ Hid (Digs k L) ∧ wr.ownsRow w.heap.size 5 1 (.slice vo L.length vc) L.length (c8 L) ∧ Below w.heap.size w wr) (fun _ iv _ _ => len - (intOf iv).toNat)
    case atStart => exact ⟨0, none, 0, [], rfl, Nat.zero_le _, by omega, rfl, by simp, ⟨rfl, .inl rfl, by simp⟩, World.ownsRow_nil _ _ _ _, Below.refl _ _⟩
    case round =>
      obtain ⟨k, vo, vc, L, rfl, hk, hk2, rfl, hL, HD, hown, hbel⟩ := hrel
      by_cases hlt : k < len ∧ k < 120
      · obtain ⟨z, hz, hc⟩ := HC.out wr hbel k hlt.1
        obtain ⟨hlt1, hlt2⟩ := hlt
        have hLk := HD.out.len
        have HO := Lib.hid hown
        have hbs := hbel.size
        have HB := Lib.hid hbel
        clear hown hbel
        by_cases hd : 0 < z % 10
        · have hd' : 0 < (z : Int) % 10 := by omega
          go_wp2_with (at_builtin; refine wpList_append_own _ rfl _ _ 22 rfl w.heap.size 5 i0 (.int .u8 0) 1 1 Tryd.underlying22 hi hz0 hz1 hz2 rfl (by decide) _ _ _ rfl (World.ownsRow.alloc HO.out _) ⟨wr.heap.size, 0, none⟩ 1 1 [.int .u8 (48 + (z : Int) % 10)] rfl rfl ?c1 ?c2 ?c3 ?c4 ?c5 ?_)
          case c1 =>
            intro j u hj
            match j, hj with
            | 0, hj => simp at hj; subst hj; simp [Addr.add]
          case c2 => intro u hu; simp at hu; subst hu; rfl
          case c3 => unfold maxLen; omega
          case c4 => omega
          case c5 => simp; omega
          · intro v' w2 hown' hgrow _
            obtain ⟨g', cap', rfl⟩ := own_some hown' (by omega)
            have ed : 48 + (z : Int) % 10 = ((UInt8.ofNat (48 + z % 10)).toNat : Int) := by rw [ofNat_dig (Nat.mod_lt _ (by decide))]; omega
            have hl' : (L ++ [UInt8.ofNat (48 + z % 10)]).length = L.length + 1 := by simp
            have hown2 : w2.ownsRow w.heap.size 5 1 (.slice (some ⟨g', 0, none⟩) (L ++ [UInt8.ofNat (48 + z % 10)]).length cap') (L ++ [UInt8.ofNat (48 + z % 10)]).length (c8 (L ++ [UInt8.ofNat (48 + z % 10)])) := by
              rw [hl', c8_append]
              have e2 : c8 [UInt8.ofNat (48 + z % 10)] = [.int .u8 (48 + (z : Int) % 10)] := by rw [ed]; rfl
              rw [e2]; exact hown'
            have hbel2 : Below w.heap.size w w2 := ((HB.out.alloc hbs _).grown hgrow (by simp; omega) (by intro q hq; exact (World.ownsRow.lt HO.out q hq).1))
            have hdg := HD.out.snoc (z % 10) (Nat.mod_lt _ (by decide)) (.inl hd)
            have HW2 := Lib.hid hown2
            have HL' := Lib.hid hl'
            have HB2 := Lib.hid hbel2
            have HDG := Lib.hid hdg
            clear hown' hgrow ed hl' hown2 hbel2 hdg
            go_wp2_with fail
            all_goals go_roundw
            case rel => exact ⟨k + 1, some ⟨g', 0, none⟩, cap', L ++ [UInt8.ofNat (48 + z % 10)], by go_num, by omega, by omega, by rw [HL'.out], by rw [HL'.out]; omega, HDG.out, HW2.out, HB2.out⟩
            case measure => simp [intOf] <;> omega
        · have hzz : (z : Int) % 10 = 0 := by omega
          by_cases hl0 : L = []
          · subst hl0
            have hlz : ¬ (0 : Int) < (([] : List UInt8).length : Int) := by simp
            go_wp2_with fail
            all_goals go_roundw
            case rel => exact ⟨k + 1, vo, vc, [], by go_num, by omega, by omega, rfl, by simp, HD.out.mono (by omega), HO.out, HB.out⟩
            case measure => simp [intOf] <;> omega
          · have hlz : (0 : Int) < (L.length : Int) := by have := List.length_pos_iff.2 hl0; omega
            have HL0 := Lib.hid hl0
            clear hl0
            go_wp2_with (at_builtin; refine wpList_append_own _ rfl _ _ 22 rfl w.heap.size 5 i0 (.int .u8 0) 1 1 Tryd.underlying22 hi hz0 hz1 hz2 rfl (by decide) _ _ _ rfl (World.ownsRow.alloc HO.out _) ⟨wr.heap.size, 0, none⟩ 1 1 [.int .u8 48] rfl rfl ?d1 ?d2 ?d3 ?d4 ?d5 ?_)
            try (case d1 =>
              intro j u hj
              match j, hj with
              | 0, hj => simp at hj; subst hj; simp [Addr.add])
            case d2 => intro u hu; simp at hu; subst hu; rfl
            case d3 => unfold maxLen; omega
            case d4 => omega
            case d5 => simp; omega
            · intro v' w2 hown' hgrow _
              obtain ⟨g', cap', rfl⟩ := own_some hown' (by omega)
              have ed : (48 : Int) = ((UInt8.ofNat (48 + z % 10)).toNat : Int) := by rw [ofNat_dig (Nat.mod_lt _ (by decide))]; omega
              have hl' : (L ++ [UInt8.ofNat (48 + z % 10)]).length = L.length + 1 := by simp
              have hown2 : w2.ownsRow w.heap.size 5 1 (.slice (some ⟨g', 0, none⟩) (L ++ [UInt8.ofNat (48 + z % 10)]).length cap') (L ++ [UInt8.ofNat (48 + z % 10)]).length (c8 (L ++ [UInt8.ofNat (48 + z % 10)])) := by
                rw [hl', c8_append]
                have e2 : c8 [UInt8.ofNat (48 + z % 10)] = [.int .u8 48] := by rw [ed]; rfl
                rw [e2]; exact hown'
              have hbel2 : Below w.heap.size w w2 := ((HB.out.alloc hbs _).grown hgrow (by simp; omega) (by intro q hq; exact (World.ownsRow.lt HO.out q hq).1))
              have hdg := HD.out.snoc (z % 10) (Nat.mod_lt _ (by decide)) (.inr HL0.out)
              have HW2 := Lib.hid hown2
              have HL' := Lib.hid hl'
              have HB2 := Lib.hid hbel2
              have HDG := Lib.hid hdg
              clear hown' hgrow ed hl' hown2 hbel2 hdg
              go_wp2_with fail
              all_goals go_roundw
              case rel => exact ⟨k + 1, some ⟨g', 0, none⟩, cap', L ++ [UInt8.ofNat (48 + z % 10)], by go_num, by omega, by omega, by rw [HL'.out], by rw [HL'.out]; omega, HDG.out, HW2.out, HB2.out⟩
              case measure => simp [intOf] <;> omega

      · by_cases hl0 : L = []
        · subst hl0
          have hs : str 0 = ⟨#[48]⟩ := (str_eq 0 (by decide) (by decide)).symm
          have HST := Lib.hid hs
          have HB := Lib.hid hbel
          clear hs hbel hown
          by_cases hkl : k < len
          · have hk3 : ¬ k < 120 := fun h => hlt ⟨hkl, h⟩
            clear hlt
            go_wp2_with fail
            go_ret
            exact ⟨0, ret_str HST.out.symm, Nat.pow_pos (by decide), HB.out⟩
          · clear hlt
            go_wp2_with fail
            go_ret
            exact ⟨0, ret_str HST.out.symm, Nat.pow_pos (by decide), HB.out⟩
        · have hlp := List.length_pos_iff.2 hl0
          have hlz : ((L.length : Int) == 0) = false := by rw [beq_eq_false_iff_ne]; omega
          obtain ⟨g, cp, hv⟩ := own_some hown hlp
          have hvo : vo = some ⟨g, 0, none⟩ := by cases hv; rfl
          subst hvo
          have hcv := run_convert_bytes_back (P := Tryd.prog) wr 22 26 5 ⟨g, 0, none⟩ vc L Tryd.underlying22 Tryd.underlying5 Tryd.underlying26 (fun j hj => by
            rw [Lib.add_plain, Nat.zero_add, World.ownsRow.cellAt hown j (by omega), c8_at L j hj])
          have hst : (⟨L.toArray⟩ : ByteArray) = str (val L) := str_of (s := ⟨L.toArray⟩) (by simpa using HD.out.canon hl0)
          have hval : val L < 10 ^ min len 120 := (HD.out.mono (show k ≤ min len 120 by omega)).lt
          rw [hst] at hcv
          have HV := Lib.hid hval
          have HB := Lib.hid hbel
          clear hst hval hbel hown hv hl0
          by_cases hkl : k < len
          · have hk3 : ¬ k < 120 := fun h => hlt ⟨hkl, h⟩
            clear hlt
            go_wp2_with fail
            go_ret
            exact ⟨val L, rfl, HV.out, HB.out⟩
          · clear hlt
            go_wp2_with fail
            go_ret
            exact ⟨val L, rfl, HV.out, HB.out⟩
end Go.Proofs.YtfhmdlpjeiockaaDoor
