/-
  The reference's Normal; contents and their rows.
-/
import Derived.Test.YtgcddiakdmddjaaDoorWAdds
namespace Go.Proofs.YtgcddiakdmddjaaDoor
open Go.RowKit

def normL (zs : List Int) : List Int := if sgnL zs = -1 then zs.map (fun z => -z) else zs
theorem sgnL_ways : ∀ zs : List Int, sgnL zs = -1 ∨ sgnL zs = 1 := by
  intro zs
  induction zs with
  | nil => exact .inr rfl
  | cons z l ih =>
    show (if z < 0 then (-1 : Int) else if 0 < z then 1 else sgnL l) = -1 ∨ _ = _
    by_cases h1 : z < 0
    · left; rw [if_pos h1]
    · by_cases h2 : 0 < z
      · right; show (if z < 0 then (-1 : Int) else if 0 < z then 1 else sgnL l) = 1; rw [if_neg h1, if_pos h2]
      · rw [if_neg h1, if_neg h2]; rcases ih with h | h
        · exact .inl h
        · right; show (if z < 0 then (-1 : Int) else if 0 < z then 1 else sgnL l) = 1; rw [if_neg h1, if_neg h2]; exact h
theorem one_map (zs : List Int) : zs.map ((1 : Int) * ·) = zs := by
  have : (fun z : Int => 1 * z) = id := by funext z; show 1 * z = z; omega
  rw [this, List.map_id]
theorem norm_vals {zs : List Int} (ok : okB zs = true) : scaleV zs (sgnL zs) = normL zs ∧ scaleE zs (sgnL zs) = 0 := by
  rcases sgnL_ways zs with h | h
  · have := neg_vals ok
    unfold normL
    rw [h, if_pos rfl]; exact this
  · have hm := one_map zs
    unfold normL
    rw [h, if_neg (by decide)]
    rcases scale_rel (k := 1) ok with ⟨h1, h2, h3⟩ | ⟨h1, h2, h3⟩
    · exact ⟨by rw [h2, hm], h3⟩
    · exfalso
      unfold scOk at h1
      rw [hm, ok] at h1
      cases hz : zeroB zs <;> simp [hz] at h1
      exact absurd h1 (by decide)

set_option maxHeartbeats 1600000 in
set_option maxRecDepth 100000 in
theorem normR_any (a : Option Addr) (n cap : Nat) (zs : List Int) (w : World) (h : Rd w a n cap zs) (ok : okB zs = true) :
    Calls Tryd.prog 43 #[.slice a n cap] w fun e w' => ∃ a n cap, e = .returned (.slice a n cap) ∧ Rd w' a n cap (normL zs) ∧ Below w.heap.size w w' := by
  have hc := h.cap
  have hl := h.len
  have h64 : n ≤ 64 := by rw [← hl]; exact okB_len ok
  obtain ⟨i0, hi, hz0, hz1, hz2⟩ := info_parts infoI
  rcases h.ways with ⟨rfl, rfl⟩ | ⟨b, off, rfl, hbw, hcell⟩
  · clear h hl ok
    go_enter Tryd.func43, Tryd.ntmps43
    go_wp2_with fail
    refine wp_loop_rounds 1 ?_
    rw [rounds_succ]
    go_wp2_with (at_builtin; refine ap_empty rfl _ _ 23 rfl 3 i0 Tryd.underlying23 hi w.heap.size a cap rfl rfl ?_)
    go_ret
    exact ⟨_, _, _, rfl, Rd.empty _ _, below_alloc _⟩
  · have HX := Lib.hid hcell
    have HL := Lib.hid hl
    have HOK := Lib.hid ok
    have HN := Lib.hid (negR_any (some ⟨b, off, none⟩) n cap zs w h ok)
    have HAP := Lib.hid (fun (v' : Value) (w2 : World) (hown' : w2.ownsRow w.heap.size 3 1 v' (0 + n) ([] ++ ci zs)) => (show ∃ a2 c2, v' = .slice a2 n c2 ∧ Rd w2 a2 n c2 zs by
      rw [Nat.zero_add, List.nil_append] at hown'
      exact Rd.of_owns hown' hl (okB_bd ok)))
    clear h hl ok hcell
    go_enter Tryd.func43, Tryd.ntmps43
    go_wp2_with fail
    go_loop [3] (fun iv => ∃ k : Nat, iv = .int .i64 k ∧ k ≤ n ∧ Hid ((zs.take k).all (fun z => z == 0) = true)) (fun iv => n - (intOf iv).toNat)
    case atStart => exact ⟨0, rfl, Nat.zero_le _, by simp [Hid]⟩
    case round =>
      obtain ⟨k, rfl, hk, HA⟩ := hrel
      by_cases hlt : k < n
      · have hkl : k < zs.length := by rw [HL.out]; exact hlt
        have hcl := HX.out k hkl
        by_cases hz0' : zs[k] = 0
        · have HT := Lib.hid (show (zs.take (k + 1)).all (fun z => z == 0) = true by rw [all_take_succ _ _ _ hkl, HA.out, hz0']; rfl)
          rw [hz0'] at hcl
          clear hz0'
          go_wp2_with fail
          go_round
          case rel => exact ⟨k + 1, by go_num, by omega, HT⟩
          case measure => simp [intOf]; omega
        · have hsg := sgnL_at hkl HA.out hz0'
          obtain ⟨z, hz⟩ : ∃ z, z = zs[k] := ⟨_, rfl⟩
          rw [← hz] at hcl hz0' hsg
          clear hz
          rcases cmpI_cases z 0 with ⟨h1, h2⟩ | ⟨h1, h2⟩ | ⟨h1, h2⟩
          · have HV := Lib.hid (show normL zs = zs.map (fun z => -z) by unfold normL; rw [hsg, h2, if_pos rfl])
            clear h2 hsg hz0'
            go_wp2_with fail
            refine HN.out.mono ?_
            rintro e w' ⟨a2, n2, cap2, rfl, hr2, hb2⟩
            have HR2 := Lib.hid hr2
            have HB2 := Lib.hid hb2
            clear hr2 hb2
            go_wp2_with fail
            go_ret
            rw [HV.out]
            exact ⟨_, _, _, rfl, HR2.out, HB2.out⟩
          · have HV := Lib.hid (show normL zs = zs by unfold normL; rw [hsg, h2, if_neg (by decide)])
            have h0 : 0 ≤ z := by omega
            clear h2 hsg hz0'
            go_wp2_with (at_builtin; refine wpList_append_own _ rfl _ _ 23 rfl w.heap.size 3 i0 (.int .i64 0) 1 8 Tryd.underlying23 hi hz0 hz1 hz2 rfl (by decide) _ _ _ rfl (own_empty w 3) ⟨b, off, none⟩ n cap (ci zs) rfl (by rw [ci_len, Nat.mul_one]; exact HL.out) (src_cells hbw HX.out) ci_one (by unfold maxLen; omega) (by omega) (by simp) ?_; intro v' w2 hown' hgrow _)
            obtain ⟨a2, c2, rfl, hrd⟩ := HAP.out v' w2 hown'
            have HRD := Lib.hid hrd
            have HB := Lib.hid (show Below w.heap.size w w2 from ((Below.refl w.heap.size w).alloc (Nat.le_refl _) _).grown hgrow (by simp) (by intro q hq; exact (World.ownsRow.lt (own_empty w 3) q hq).1))
            clear hown' hgrow hrd
            go_wp2_with fail
            go_ret
            rw [HV.out]
            exact ⟨_, _, _, rfl, HRD.out, HB.out⟩
          · exact absurd h1 hz0'
      · obtain rfl : k = n := by omega
        have hall := HA.out
        rw [List.take_of_length_le (by rw [HL.out]; omega)] at hall
        have HV := Lib.hid (show normL zs = zs by unfold normL; rw [sgnL_zero (show zeroB zs = true from hall), if_neg (by decide)])
        clear hall
        go_wp2_with (at_builtin; refine wpList_append_own _ rfl _ _ 23 rfl w.heap.size 3 i0 (.int .i64 0) 1 8 Tryd.underlying23 hi hz0 hz1 hz2 rfl (by decide) _ _ _ rfl (own_empty w 3) ⟨b, off, none⟩ k cap (ci zs) rfl (by rw [ci_len, Nat.mul_one]; exact HL.out) (src_cells hbw HX.out) ci_one (by unfold maxLen; omega) (by omega) (by simp) ?_; intro v' w2 hown' hgrow _)
        obtain ⟨a2, c2, rfl, hrd⟩ := HAP.out v' w2 hown'
        have HRD := Lib.hid hrd
        have HB := Lib.hid (show Below w.heap.size w w2 from ((Below.refl w.heap.size w).alloc (Nat.le_refl _) _).grown hgrow (by simp) (by intro q hq; exact (World.ownsRow.lt (own_empty w 3) q hq).1))
        clear hown' hgrow hrd
        go_wp2_with fail
        go_ret
        rw [HV.out]
        exact ⟨_, _, _, rfl, HRD.out, HB.out⟩

/-- the content times the primitive row -/
theorem prim_back (zs : List Int) : (zs.map (fun z => z.tdiv (gcdL zs : Int))).map ((gcdL zs : Int) * ·) = zs := by
  rw [List.map_map]
  have : ∀ z ∈ zs, ((fun x => (gcdL zs : Int) * x) ∘ fun z => z.tdiv (gcdL zs : Int)) z = z := fun z hz => by
    show (gcdL zs : Int) * z.tdiv (gcdL zs : Int) = z
    exact Int.mul_tdiv_cancel' (Int.natAbs_dvd_natAbs.1 (by simpa using gcdL_dvd hz))
  rw [List.map_congr_left this, List.map_id']
theorem prim_ok {zs : List Int} (ok : okB zs = true) (c : Nat) : okB (zs.map (fun z => z.tdiv (c : Int))) = true := by
  refine okB_good (by rw [List.length_map]; exact okB_len ok) (List.all_eq_true.2 fun z hz => ?_)
  obtain ⟨y, hy, rfl⟩ := List.mem_map.1 hz
  have h := okB_ent ok hy
  exact entB_iff.2 (tdiv_bd y c h.1 h.2)
theorem gcdL_le {zs : List Int} (ok : okB zs = true) (oz : zeroB zs = false) : gcdL zs ≤ 1000000000 := by
  unfold zeroB at oz
  rw [List.all_eq_false] at oz
  obtain ⟨z, hz, hne⟩ := oz
  have hne : z ≠ 0 := by simpa using hne
  have h := okB_ent ok hz
  have := Nat.le_of_dvd (by omega) (gcdL_dvd hz)
  omega
theorem prim_scOk {zs : List Int} (ok : okB zs = true) (oz : zeroB zs = false) : scOk (zs.map (fun z => z.tdiv (gcdL zs : Int))) (gcdL zs : Int) = true := by
  unfold scOk
  rw [prim_back, ok, entB_iff.2 (by have := gcdL_le ok oz; omega)]; simp
end Go.Proofs.YtgcddiakdmddjaaDoor
