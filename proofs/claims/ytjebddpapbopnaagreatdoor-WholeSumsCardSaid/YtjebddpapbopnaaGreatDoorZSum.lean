/-
  Package whole: Sum.
-/
import Derived.Test.YtjebddpapbopnaaGreatDoorZMake
namespace Go.Proofs.YtjebddpapbopnaaGreatDoor
open Go.RowKit

/-- a slice of integers' texts -/
def Txt (w : World) (a : Option Addr) (zs : List Int) : Prop := zs = [] ∨ ∃ g o, a = some ⟨g, o, none⟩ ∧ g < w.heap.size ∧ ∀ i (h : i < zs.length), w.cell? ⟨g, o + i, none⟩ = some (.string (zS zs[i]))
theorem Txt.below {w w' : World} {a : Option Addr} {zs : List Int} (h : Txt w a zs) (hb : Below w.heap.size w w') : Txt w' a zs := by
  rcases h with h | ⟨g, o, h1, h2, h3⟩
  · exact .inl h
  · exact .inr ⟨g, o, h1, Nat.lt_of_lt_of_le h2 hb.size, fun i hi => by rw [hb.cell (p := ⟨g, o + i, none⟩) h2]; exact h3 i hi⟩
theorem sum_next {zs : List Int} {k : Nat} (h : k < zs.length) : (zs.take (k + 1)).sum = (zs.take k).sum + zs[k] := by
  rw [List.take_add_one, List.getElem?_eq_getElem h, Option.toList_some, List.sum_append]; simp
set_option maxHeartbeats 400000 in
theorem magW2_any (z : Int) (w : World) (h1 : -9223372036854775807 ≤ z) (h2 : z ≤ 9223372036854775807) :
    Calls Tryz.prog 71 #[.int .i64 z] w fun e w' => e = .returned (.int .u64 (z.natAbs : Int)) ∧ w = w' := by
  have hm : max z (-z) = (z.natAbs : Int) := by omega
  have hw := IntWalk.i64_in (-z) ⟨by omega, by omega⟩
  have hu : IntKind.u64.wrap (z.natAbs : Int) = (z.natAbs : Int) := by rw [IntKind.wrap_u64]; omega
  obtain ⟨n, hn⟩ : ∃ n : Nat, n = z.natAbs := ⟨_, rfl⟩
  rw [← hn] at hm hu ⊢
  clear hn
  go_enter Tryz.func71, Tryz.ntmps71
  go_wp2_with fail
  go_ret
  exact ⟨rfl, rfl⟩
theorem big30 {z : Int} (h : z.natAbs < 1000000000000000000000000000000) : (str z.natAbs).size ≤ 30 := str_big (n := 30) (Nat.lt_of_lt_of_le h (by decide)) (by decide)
set_option maxHeartbeats 3200000 in
set_option maxRecDepth 100000 in
theorem sumW_any (a : Option Addr) (cap : Nat) (zs : List Int) (w : World) (hs : Std w) (h : Txt w a zs) (hl : zs.length ≤ 100) (hz : ∀ z ∈ zs, z.natAbs < 10000000000000000000000000) :
    Calls Tryz.prog 36 #[.slice a zs.length cap] w fun e w' => e = .returned (.string (zS zs.sum)) ∧ Below w.heap.size w w' := by
  have HS := Lib.hid hs
  have HC := Lib.hid (fun (wx : World) (hw : Below w.heap.size w wx) (i : Nat) (hi : i < zs.length) => (show ∃ (g o : Nat) (z : Int), a = some ⟨g, o, none⟩ ∧ z = zs[i] ∧ z.natAbs < 10000000000000000000000000 ∧ wx.cell? ⟨g, o + i, none⟩ = some (.string (zS z)) by
    rcases h.below hw with h | ⟨g, o, h1, h2, h3⟩
    · rw [h] at hi; simp at hi
    · exact ⟨g, o, zs[i], h1, rfl, hz _ (List.getElem_mem _), h3 i hi⟩))
  have HO := Lib.hid (fun (z : Int) wx hw h1 h2 => ofW_any z wx hw h1 h2)
  have HA := Lib.hid (fun (x y : Int) wx hw (h1 : x.natAbs < 1000000000000000000000000000000) (h2 : y.natAbs < 1000000000000000000000000000000) => addW_any x y wx hw (Nat.le_trans (big30 h1) (by decide)) (Nat.le_trans (big30 h2) (by decide)))
  have E0 := Lib.hid zS_zero
  clear hs h hz
  go_enter Tryz.func36, Tryz.ntmps36
  go_wp2_with fail
  go_loopw [3, 4, 6, 7, 8, 11] (fun tv pv _ _ _ iv wr => ∃ (k : Nat) (T p : Int), tv = .string (zS T) ∧ pv = .int .i64 p ∧ iv = .int .i64 (k : Int) ∧ k ≤ zs.length ∧ -1000000000000000000 < p ∧ p < 1000000000000000000 ∧ Hid (T + p = (zs.take k).sum ∧ T.natAbs ≤ 20000000000000000000000000 * k) ∧ Below w.heap.size w wr) (fun _ _ _ _ _ iv _ => zs.length - (intOf iv).toNat)
  case atStart => exact ⟨0, 0, 0, by rw [E0.out], rfl, rfl, Nat.zero_le _, by decide, by decide, ⟨by simp, by simp⟩, Below.refl _ _⟩
  case round =>
    obtain ⟨k, T, p, rfl, rfl, rfl, hk, hp1, hp2, HI, hbel⟩ := hrel
    have HB := Lib.hid hbel
    have hT := HI.out.2
    by_cases hlt : k < zs.length
    · obtain ⟨g, o, z, rfl, hzk, hzb, hcz⟩ := HC.out wr hbel k hlt
      have HF := Lib.hid (fun wx hw => few_any z wx hw (Nat.le_trans (big30 (by omega)) (by decide)))
      have HSUM := Lib.hid (show (zs.take (k + 1)).sum = T + p + z by rw [sum_next hlt, ← HI.out.1, hzk])
      clear hbel hzk HI
      cases hf : fewB z with
      | false =>
        rw [hf] at HF
        have HA1 := Lib.hid (fun wx hw => HA.out T z wx hw (by omega) (by omega))
        have HI2 := Lib.hid (show T + z + p = (zs.take (k + 1)).sum ∧ (T + z).natAbs ≤ 20000000000000000000000000 * (k + 1) from ⟨by rw [HSUM.out]; omega, by omega⟩)
        obtain ⟨s, hs⟩ : ∃ s, s = zS z := ⟨_, rfl⟩
        obtain ⟨t, ht⟩ : ∃ s, s = zS T := ⟨_, rfl⟩
        obtain ⟨u, hu⟩ : ∃ s, s = zS (T + z) := ⟨_, rfl⟩
        have HU := Lib.hid hu
        rw [← hs] at HF HA1 hcz
        rw [← ht] at HA1 ⊢
        rw [← hu] at HA1
        clear hs ht hu hf hT hzb
        go_wp2_with fail
        refine (HF.out _ (HS.out.below HB.out)).mono ?_
        rintro e w2 ⟨⟨v, rfl, -⟩, h2⟩
        have B2 := Lib.hid (HB.out.trans (h2.mono HB.out.size))
        clear h2
        go_wp2_with fail
        refine (HA1.out _ (HS.out.below B2.out)).mono ?_
        rintro e w3 ⟨rfl, h3⟩
        have B3 := Lib.hid (B2.out.trans (h3.mono B2.out.size))
        clear h3
        go_wp2_with fail
        all_goals go_roundw
        case rel => exact ⟨k + 1, T + z, p, by rw [HU.out], rfl, by go_num, by omega, hp1, hp2, HI2, B3.out⟩
        case measure => simp [intOf] <;> omega
      | true =>
        rw [hf] at HF
        have hfz : -1000000000000000000 < z ∧ z < 1000000000000000000 := by unfold fewB at hf; simp at hf; omega
        have hw := IntWalk.i64_in (p + z) ⟨by omega, by omega⟩
        have hM := fun wx => magW2_any (p + z) wx (by omega) (by omega)
        obtain ⟨m, hm⟩ : ∃ m, m = (p + z).natAbs := ⟨_, rfl⟩
        rw [← hm] at hM
        have HM := Lib.hid hM
        by_cases hbig : 1000000000000000000 ≤ m
        · have hbb : decide ((m : Int) ≥ 1000000000000000000) = true := decide_eq_true (by omega)
          have HO1 := Lib.hid (fun wx hw => HO.out (p + z) wx hw (by omega) (by omega))
          have HA1 := Lib.hid (fun wx hw => HA.out T (p + z) wx hw (by omega) (by omega))
          have HI2 := Lib.hid (show T + (p + z) + 0 = (zs.take (k + 1)).sum ∧ (T + (p + z)).natAbs ≤ 20000000000000000000000000 * (k + 1) from ⟨by rw [HSUM.out]; omega, by omega⟩)
          obtain ⟨s, hs⟩ : ∃ s, s = zS z := ⟨_, rfl⟩
          obtain ⟨t, ht⟩ : ∃ s, s = zS T := ⟨_, rfl⟩
          obtain ⟨q, hq⟩ : ∃ q, q = p + z := ⟨_, rfl⟩
          obtain ⟨u, hu⟩ : ∃ s, s = zS (T + (p + z)) := ⟨_, rfl⟩
          obtain ⟨r, hr⟩ : ∃ s, s = zS (p + z) := ⟨_, rfl⟩
          have HU := Lib.hid hu
          rw [← hs] at HF hcz
          rw [← ht] at HA1 ⊢
          rw [← hu, ← hr] at HA1
          rw [← hr] at HO1
          clear hs ht hu hr hf hT hzb hm hM hbig hq
          go_wp2_with fail
          refine (HF.out _ (HS.out.below HB.out)).mono ?_
          rintro e w2 ⟨⟨v, rfl, hv⟩, h2⟩
          obtain rfl := hv trivial
          have B2 := Lib.hid (HB.out.trans (h2.mono HB.out.size))
          clear h2 hv
          go_wp2_with fail
          refine (HM.out _).mono ?_
          rintro e w3 ⟨rfl, rfl⟩
          go_wp2_with fail
          refine (HO1.out _ (HS.out.below B2.out)).mono ?_
          rintro e w3 ⟨rfl, h3⟩
          have B3 := Lib.hid (B2.out.trans (h3.mono B2.out.size))
          clear h3
          go_wp2_with fail
          refine (HA1.out _ (HS.out.below B3.out)).mono ?_
          rintro e w4 ⟨rfl, h4⟩
          have B4 := Lib.hid (B3.out.trans (h4.mono B3.out.size))
          clear h4
          go_wp2_with fail
          all_goals go_roundw
          case rel => exact ⟨k + 1, _, 0, by rw [HU.out], rfl, by go_num, by omega, by decide, by decide, HI2, B4.out⟩
          case measure => simp [intOf] <;> omega
        · have hbb : decide ((m : Int) ≥ 1000000000000000000) = false := decide_eq_false (by omega)
          have HI2 := Lib.hid (show T + (p + z) = (zs.take (k + 1)).sum ∧ T.natAbs ≤ 20000000000000000000000000 * (k + 1) from ⟨by rw [HSUM.out]; omega, by omega⟩)
          have hq1 : -1000000000000000000 < p + z := by omega
          have hq2 : p + z < 1000000000000000000 := by omega
          obtain ⟨s, hs⟩ : ∃ s, s = zS z := ⟨_, rfl⟩
          rw [← hs] at HF hcz
          clear hs hf hT hzb hm hM hbig
          go_wp2_with fail
          refine (HF.out _ (HS.out.below HB.out)).mono ?_
          rintro e w2 ⟨⟨v, rfl, hv⟩, h2⟩
          obtain rfl := hv trivial
          have B2 := Lib.hid (HB.out.trans (h2.mono HB.out.size))
          clear h2 hv
          go_wp2_with fail
          refine (HM.out _).mono ?_
          rintro e w3 ⟨rfl, rfl⟩
          go_wp2_with fail
          all_goals go_roundw
          case rel => exact ⟨k + 1, T, _, rfl, rfl, by go_num, by omega, hq1, hq2, HI2, B2.out⟩
          case measure => simp [intOf] <;> omega
    · have hall := HI.out.1
      rw [List.take_of_length_le (by omega)] at hall
      have HO1 := Lib.hid (fun wx hw => HO.out p wx hw (by omega) (by omega))
      have HA1 := Lib.hid (fun wx hw => HA.out T p wx hw (by omega) (by omega))
      rw [hall] at HA1
      obtain ⟨t, ht⟩ : ∃ s, s = zS T := ⟨_, rfl⟩
      obtain ⟨q, hq⟩ : ∃ s, s = zS p := ⟨_, rfl⟩
      obtain ⟨u, hu⟩ : ∃ s, s = zS zs.sum := ⟨_, rfl⟩
      have HU := Lib.hid hu
      rw [← ht] at HA1 ⊢
      rw [← hq] at HO1 HA1
      rw [← hu] at HA1
      clear ht hq hu hT hall HI hbel
      go_wp2_with fail
      refine (HO1.out _ (HS.out.below HB.out)).mono ?_
      rintro e w3 ⟨rfl, h3⟩
      have B3 := Lib.hid (HB.out.trans (h3.mono HB.out.size))
      clear h3
      go_wp2_with fail
      refine (HA1.out _ (HS.out.below B3.out)).mono ?_
      rintro e w4 ⟨rfl, h4⟩
      have B4 := Lib.hid (B3.out.trans (h4.mono B3.out.size))
      clear h4
      go_wp2_with fail
      go_ret
      exact ⟨by rw [← HU.out]; rfl, B4.out⟩
end Go.Proofs.YtjebddpapbopnaaGreatDoor
