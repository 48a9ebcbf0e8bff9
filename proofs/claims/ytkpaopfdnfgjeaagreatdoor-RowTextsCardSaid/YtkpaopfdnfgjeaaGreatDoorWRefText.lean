/-
  The reference's Text.
-/
import Derived.Test.YtkpaopfdnfgjeaaGreatDoorWDig
import Derived.Test.YtkpaopfdnfgjeaaGreatDoorWText
namespace Go.Proofs.YtkpaopfdnfgjeaaGreatDoor
open Go.RowKit

theorem iS_nat (n : Nat) : iS (n : Int) = dS n := by unfold iS dS; rw [Lib.itoa_nonneg]
theorem iS_neg (n : Nat) (h : 1 ≤ n) : iS (-(n : Int)) = ⟨#[45]⟩ ++ dS n := by
  apply ByteArray.ext
  rw [ByteArray.data_append]
  unfold iS dS; rw [Lib.itoa_neg n h]; simp
set_option maxHeartbeats 800000 in
theorem digR_any (z : Int) (w : World) (h1 : -1000000000 ≤ z) (h2 : z ≤ 1000000000) : Calls Tryz.prog 22 #[.int .i64 z] w fun e w' => e = .returned (.string (iS z)) ∧ Below w.heap.size w w' := by
  by_cases h : z < 0
  · obtain ⟨n, hn⟩ : ∃ n : Nat, z = -(n : Int) := ⟨z.natAbs, by omega⟩
    subst hn
    have hd := iS_neg n (by omega)
    have hwr : IntKind.i64.wrap (n : Int) = (n : Int) := IntWalk.i64_in _ ⟨by omega, by omega⟩
    have hsz := dS_size (n := n) (by omega)
    have HO := Lib.hid (fun wx => digN_any n wx (by omega))
    have HD := Lib.hid hd
    clear hd
    go_enter Tryz.func22, Tryz.ntmps22
    go_wp2_with fail
    try simp only [Int.neg_neg, hwr]
    refine (HO.out _).mono ?_
    rintro e w' ⟨rfl, hb⟩
    have HB := Lib.hid hb
    clear hb
    go_wp2_with fail
    go_ret
    exact ⟨by rw [HD.out]; rfl, HB.out⟩
  · obtain ⟨n, hn⟩ : ∃ n : Nat, z = (n : Int) := ⟨z.natAbs, by omega⟩
    subst hn
    rw [iS_nat]
    exact digN_any n w (by omega)

def mS (zs : List Int) : ByteArray := ⟨(midL zs).toArray⟩
theorem tail_snoc (sep : List UInt8) (r : List (List UInt8)) (x : List UInt8) : Lib.joinTail sep (r ++ [x]) = Lib.joinTail sep r ++ sep ++ x := by simp [Lib.joinTail]
theorem join_snoc (sep : List UInt8) (r : List (List UInt8)) (x : List UInt8) (h : r ≠ []) : Lib.join (r ++ [x]) sep = Lib.join r sep ++ sep ++ x := by
  cases r with
  | nil => exact absurd rfl h
  | cons y r => rw [List.cons_append, Lib.join_cons, Lib.join_cons, tail_snoc]; simp
theorem mS_first {zs : List Int} (h : 0 < zs.length) : mS (zs.take (0 + 1)) = mS (zs.take 0) ++ iS zs[0] := by
  apply ByteArray.ext
  rw [ByteArray.data_append]
  unfold mS midL iS
  rw [List.take_succ_eq_append_getElem h]
  simp [Lib.join_one, Lib.join_nil]
theorem mS_next {zs : List Int} {k : Nat} (h : k < zs.length) (h0 : 0 < k) : mS (zs.take (k + 1)) = mS (zs.take k) ++ ⟨#[32]⟩ ++ iS zs[k] := by
  apply ByteArray.ext
  rw [ByteArray.data_append, ByteArray.data_append]
  unfold mS midL iS
  rw [List.take_succ_eq_append_getElem h, List.map_append]
  rw [show List.map Lib.itoa [zs[k]] = [Lib.itoa zs[k]] from rfl, join_snoc _ _ _ (by
    intro e
    have := congrArg List.length e
    have hne : (zs.take k).length = k := by rw [List.length_take]; omega
    rw [List.length_map, hne] at this; simp at this; omega)]
  simp
theorem mS_size {zs : List Int} (ok : okB zs = true) (k : Nat) : (mS (zs.take k)).size ≤ 1408 := by
  have hk : okB (zs.take k) = true := okB_good (by have := okB_len ok; rw [List.length_take]; omega) (List.all_eq_true.2 fun z hz => entB_iff.2 (okB_ent ok (List.mem_of_mem_take hz)))
  show (midL (zs.take k)).toArray.size ≤ 1408
  rw [List.size_toArray]; exact mid_len hk
theorem iS_size {z : Int} (h1 : -1000000000 ≤ z) (h2 : z ≤ 1000000000) : (iS z).size ≤ 21 := by
  show (Lib.itoa z).toArray.size ≤ 21
  rw [List.size_toArray]; exact itoa_len h1 h2
set_option maxHeartbeats 1600000 in
set_option maxRecDepth 100000 in
theorem textR_any (a : Option Addr) (n cap : Nat) (zs : List Int) (ket : Bool) (w : World) (h : Rd w a n cap zs) (ok : okB zs = true) :
    Calls Tryz.prog 9 #[.slice a n cap, .bool ket] w fun e w' => e = .returned (.string (textS zs ket)) ∧ Below w.heap.size w w' := by
  have hc := h.cap
  have hl := h.len
  have HX := Lib.hid (show ∀ i (hi : i < zs.length), ∃ b off, a = some ⟨b, off, none⟩ ∧ b < w.heap.size ∧ w.cell? ⟨b, off + i, none⟩ = some (.int .i64 (zs[i]'hi)) by
    intro i hi
    rcases h.2.2.2.2 with he | ⟨b, off, e, hb, hcell⟩
    · have e' : zs.length = 0 := by rw [he]; rfl
      omega
    · exact ⟨b, off, e, hb, hcell i hi⟩)
  have HL := Lib.hid hl
  have HOK := Lib.hid ok
  have hm0 : mS (zs.take 0) = ⟨#[]⟩ := rfl
  have HM0 := Lib.hid hm0
  clear h hl ok hm0
  go_enter Tryz.func9, Tryz.ntmps9
  go_wp2_with fail
  go_loopw [5, 6] (fun sv iv wr => ∃ k : Nat, iv = .int .i64 k ∧ k ≤ n ∧ sv = .string (mS (zs.take k)) ∧ Below w.heap.size w wr) (fun _ iv _ => n - (intOf iv).toNat)
  case atStart => exact ⟨0, rfl, Nat.zero_le _, rfl, Below.refl _ _⟩
  case round =>
    obtain ⟨k, rfl, hk, rfl, hbel⟩ := hrel
    have HB := Lib.hid hbel
    have hsz := mS_size HOK.out k
    clear hbel
    by_cases hlt : k < n
    · have hkl : k < zs.length := by rw [HL.out]; exact hlt
      obtain ⟨b, off, rfl, hb, hc1⟩ := HX.out k hkl
      have hcl := (HB.out.cell (p := ⟨b, off + k, none⟩) hb).trans hc1
      have hze := okB_at HOK.out k hkl
      by_cases h0 : k = 0
      · subst h0
        have hnx := mS_first hkl
        rw [Nat.add_zero] at hcl
        obtain ⟨z, hz⟩ : ∃ z, z = zs[0] := ⟨_, rfl⟩
        rw [← hz] at hcl hze hnx
        have hs2 := iS_size hze.1 hze.2
        have HD := Lib.hid (fun wx => digR_any z wx hze.1 hze.2)
        obtain ⟨S, hS⟩ : ∃ S, S = mS (zs.take 0) := ⟨_, rfl⟩
        obtain ⟨I, hI⟩ : ∃ I, I = iS z := ⟨_, rfl⟩
        rw [← hI] at HD hs2 hnx
        rw [← hS] at hsz hnx ⊢
        have HNX := Lib.hid hnx
        clear hz hnx hc1 hS hI hze
        go_wp2_with fail
        refine (HD.out _).mono ?_
        rintro e w2 ⟨rfl, h2⟩
        have HB2 := Lib.hid (HB.out.trans (h2.mono HB.out.size))
        clear h2
        go_wp2_with fail
        go_roundw
        case rel => exact ⟨0 + 1, by go_num, by omega, by rw [HNX.out], HB2.out⟩
        case measure => simp [intOf]; omega
      · have hnx := mS_next hkl (by omega)
        obtain ⟨z, hz⟩ : ∃ z, z = zs[k] := ⟨_, rfl⟩
        rw [← hz] at hcl hze hnx
        have hs2 := iS_size hze.1 hze.2
        have HD := Lib.hid (fun wx => digR_any z wx hze.1 hze.2)
        obtain ⟨S, hS⟩ : ∃ S, S = mS (zs.take k) := ⟨_, rfl⟩
        obtain ⟨I, hI⟩ : ∃ I, I = iS z := ⟨_, rfl⟩
        rw [← hI] at HD hs2 hnx
        rw [← hS] at hsz hnx ⊢
        have HNX := Lib.hid hnx
        clear hz hnx hc1 hS hI hze
        go_wp2_with fail
        refine (HD.out _).mono ?_
        rintro e w2 ⟨rfl, h2⟩
        have HB2 := Lib.hid (HB.out.trans (h2.mono HB.out.size))
        clear h2
        go_wp2_with fail
        go_roundw
        case rel => exact ⟨k + 1, by go_num, by omega, by rw [HNX.out], HB2.out⟩
        case measure => simp [intOf]; omega
    · obtain rfl : k = n := by omega
      have ht : textS zs ket = if ket = true then ⟨#[91]⟩ ++ mS (zs.take k) ++ ⟨#[62]⟩ else ⟨#[60]⟩ ++ mS (zs.take k) ++ ⟨#[93]⟩ := by
        rw [List.take_of_length_le (by rw [HL.out]; omega)]; rfl
      obtain ⟨S, hS⟩ : ∃ S, S = mS (zs.take k) := ⟨_, rfl⟩
      rw [← hS] at hsz ht ⊢
      have HT := Lib.hid ht
      clear ht hS
      cases ket
      all_goals
        go_wp2_with fail
        go_ret
        exact ⟨by rw [HT.out]; rfl, HB.out⟩
end Go.Proofs.YtkpaopfdnfgjeaaGreatDoor
