/-
  Texts of one seat, joined: YIdx YPrW YPrR.
-/
import Derived.Test.YtdgbplppabalgaaGreatDoorShelf3
import Derived.Test.YtdgbplppabalgaaGreatDoorJ15
import Derived.Laws.RangeAny
import Derived.Test.YtdgbplppabalgaaGreatDoorL35
import Derived.WalkMore
import Derived.Laws.Runes
import Derived.Lib.OthersKept
import Derived.Lib.IndexBytes
import Derived.Test.YtdgbplppabalgaaGreatDoorL38
import Derived.Test.YtdgbplppabalgaaGreatDoorL40
import Derived.Test.YtdgbplppabalgaaGreatDoorJ20
import Derived.Test.YtdgbplppabalgaaGreatDoorJ27
import Derived.Test.YtdgbplppabalgaaGreatDoorJ16
import Derived.Test.YtdgbplppabalgaaGreatDoorJ17
namespace Go.Proofs.YtdgbplppabalgaaGreatDoor
open Go.RowKit

theorem get_lt (s : ByteArray) (j : Nat) (h : j < s.size) : s.data.toList[j]? = some (s.get! j) := by
  have e := get_at s j h
  rw [Lib.data_getElem? s j h, ← e]; rfl
set_option maxRecDepth 100000 in
/-- the bytes behind a rune's first -/
theorem decode_wide (s : ByteArray) (pos : Nat) (k : Nat) (h1 : 1 ≤ k) (hk : k < (Utf8.decode s pos).2) : pos + k < s.size ∧ 128 ≤ (s.get! (pos + k)).toNat := by
  have hw : (Utf8.decode s pos).2 ≤ 4 := by
    simp only [Utf8.decode]
    repeat' split
    all_goals simp
  have h3 : k = 1 ∨ k = 2 ∨ k = 3 := by omega
  simp only [Utf8.decode] at hk
  repeat' split at hk
  all_goals simp_all
  all_goals (try omega)
  all_goals (rcases h3 with rfl | rfl | rfl <;> omega)
/-- a rune that is decoded is a valid one -/
theorem decode_valid (s : ByteArray) (pos : Nat) : Utf8.valid (((Utf8.decode s pos).1 : Nat) : Int) = true := by
  have hb : ∀ k, (s.get! (pos + k)).toNat < 256 := fun k => (s.get! (pos + k)).toNat_lt
  have h0 := hb 0; have h1 := hb 1; have h2 := hb 2; have h3 := hb 3
  simp only [Utf8.decode]
  repeat' split
  all_goals simp_all [Utf8.runeError, Utf8.valid]
  all_goals (try omega)
set_option maxHeartbeats 3200000 in
set_option maxRecDepth 100000 in
/-- strings.IndexRune in '/.' of a rune beyond ASCII -/
theorem idxR_err (w : World) :
    Calls Tryz.prog 129 #[.string ⟨#[47, 46]⟩, .int .i32 65533] w fun e w' => e = .returned (.int .i64 (-1)) ∧ Below w.heap.size w w' := by
  obtain ⟨C, hC⟩ : ∃ C : ByteArray, C = ⟨#[47, 46]⟩ := ⟨_, rfl⟩
  have hCs : C.size = 2 := by rw [hC]; rfl
  have HCb : RowKit.Hid (∀ i (hi : i < C.size), (C[i]'hi).toNat = 47 ∨ (C[i]'hi).toNat = 46) := Lib.hid <| by
    subst hC
    intro i hi
    have : i = 0 ∨ i = 1 := by have : (⟨#[47, 46]⟩ : ByteArray).size = 2 := rfl; omega
    rcases this with rfl | rfl
    · exact .inl rfl
    · exact .inr rfl
  rw [← hC]
  clear hC
  go_enter Tryz.func129, Tryz.ntmps129
  go_wp2_with fail
  go_loopg [5, 6] 2 (fun g _ _ wx => ∃ i : Nat, i + g = 2 ∧ wx = w.iter C i)
  case atStart => exact ⟨0, rfl, rfl⟩
  case round =>
    obtain ⟨i, hig, rfl⟩ := hrel
    cases gk with
    | zero =>
      obtain rfl : i = 2 := by omega
      have hnx := fun ty => run_next_end (P := Tryz.prog) w C 2 ty (by omega)
      go_wp2
      go_ret
      exact ⟨rfl, ((Below.refl _ _).alloc (Nat.le_refl _) _)⟩
    | succ g =>
      have hi : i < C.size := by omega
      obtain ⟨x, hx⟩ : ∃ x : UInt8, C[i]'hi = x := ⟨_, rfl⟩
      have h2 := HCb.out i hi
      have hnx := fun ty => run_next_ascii (P := Tryz.prog) w C i ty hi (by omega)
      rw [hx] at hnx h2
      have hne : ((x.toNat : Int) == 65533) = false := beq_eq_false_iff_ne.2 (by omega)
      clear h2 hx
      go_wp2_with fail
      go_roundg g
      case measure => omega
      case rel => exact ⟨i + 1, by omega, rfl⟩
theorem enc_two {r : Int} (h1 : 128 ≤ r) (h2 : r < 2048) : ∃ a b : UInt8, Utf8.encode r = ⟨#[a, b]⟩ ∧ 128 ≤ b.toNat := by
  refine ⟨UInt8.ofNat (192 + r.toNat / 64), UInt8.ofNat (128 + r.toNat % 64), ?_, ?_⟩
  · have hv : Utf8.valid r = true := by unfold Utf8.valid; simp; omega
    unfold Utf8.encode
    simp only [hv, if_true]
    rw [if_neg (by omega), if_pos (by omega)]
  · have : r.toNat % 64 < 64 := Nat.mod_lt _ (by decide)
    rw [UInt8.toNat_ofNat_of_lt' (by show 128 + r.toNat % 64 < 256; omega)]; omega
theorem enc_more {r : Int} (h1 : 2048 ≤ r) (hv : Utf8.valid r = true) : 3 ≤ (Utf8.encode r).size ∧ (Utf8.encode r).size ≤ 4 := by
  unfold Utf8.encode
  simp only [hv, if_true]
  rw [if_neg (by omega), if_neg (by omega)]
  split
  · exact ⟨by show 3 ≤ 3; omega, by show 3 ≤ 4; omega⟩
  · exact ⟨by show 3 ≤ 4; omega, by show 4 ≤ 4; omega⟩
theorem valid_same (r : Int) : Lib.validRune r = Utf8.valid r := by
  unfold Lib.validRune Utf8.valid
  rw [Bool.eq_iff_iff]
  simp
  omega
set_option maxHeartbeats 3200000 in
set_option maxRecDepth 100000 in
theorem idxR_two (r : Int) (h1 : 128 ≤ r) (h2 : r < 2048) (w : World) :
    Calls Tryz.prog 129 #[.string ⟨#[47, 46]⟩, .int .i32 r] w fun e w' => e = .returned (.int .i64 (-1)) ∧ Below w.heap.size w w' := by
  obtain ⟨a, b, he, hb⟩ := enc_two h1 h2
  have hv : Lib.validRune r = true := by rw [valid_same]; unfold Utf8.valid; simp; omega
  have HV := Lib.hid (fun wx => Tryz.utf8_ValidRune r wx)
  rw [hv] at HV
  have p1 : (0 : Int) ≤ r := by omega
  have p2 : ¬ r < 128 := by omega
  have p3 : (r == 65533) = false := beq_eq_false_iff_ne.2 (by omega)
  have p4 : ((((⟨#[47, 46]⟩ : ByteArray)[1]'(by show 1 < 2; decide)).toNat : Int) != (((⟨#[a, b]⟩ : ByteArray)[1]'(by show 1 < 2; decide)).toNat : Int)) = true := by
    show ((46 : Int) != (b.toNat : Int)) = true
    rw [bne_iff_ne]; omega
  have HB := Lib.hid (fun wx => Tryz.strings_IndexByte ⟨#[]⟩ b.toNat wx)
  have hcv := fun wx => run_convert_int_string (P := Tryz.prog) wx 21 9 .i32 r (by rw [Tryz.underlying21]; rfl) Tryz.underlying9
  rw [he] at hcv
  have hw2 : IntKind.i64.wrap 2 = 2 := by rfl
  have hex : (⟨#[47, 46]⟩ : ByteArray).extract 2 2 = ⟨#[]⟩ := by rfl
  clear hv h1 h2 hb he
  go_enter Tryz.func129, Tryz.ntmps129
  go_wp2_with (go_at_call 171; refine (HV.out _).mono ?_; rintro e w' ⟨rfl, rfl⟩)
  go_step3
  go_wp2_with fail
  refine wp_loop_rounds 1 ?_
  rw [rounds_succ]
  go_wp2_with fail
  go_step3
  go_wp2_with fail
  refine Batch.wp_region_det (S := fun W => W = w'.drew) (by kernel_rfl) rfl ?_
  refine' Batch.det_take 0 (v := ?v0) ?hi0 (by kernel_rfl) (by kernel_rfl) (by kernel_rfl) (Batch.Does.val ?hw0 ?hv0) ?rest0
  case hi0 => (simp only [List.getElem?_toArray, List.getElem?_cons_zero]; rfl)
  case hw0 => rfl
  case hv0 => (intro wx hSw; go_simp; (try with_reducible rfl))
  (try simp only [Act.put, List.setIfInBounds_toArray, List.set_cons_zero, List.set_cons_succ])
  refine' Batch.det_take 1 (v := ?v1) ?hi1 (by kernel_rfl) (by kernel_rfl) (by kernel_rfl) (Batch.Does.val ?hw1 ?hv1) ?rest1
  case hi1 => (simp only [List.getElem?_toArray, List.getElem?_cons_succ, List.getElem?_cons_zero]; rfl)
  case hw1 => rfl
  case hv1 => (intro wx hSw; go_simp; (try with_reducible rfl))
  (try simp only [Act.put, List.setIfInBounds_toArray, List.set_cons_zero, List.set_cons_succ])
  refine' Batch.det_take 2 (v := ?v2) ?hi2 (by kernel_rfl) (by kernel_rfl) (by kernel_rfl) (Batch.Does.val ?hw2 ?hv2) ?rest2
  case hi2 => (simp only [List.getElem?_toArray, List.getElem?_cons_succ, List.getElem?_cons_zero]; rfl)
  case hw2 => rfl
  case hv2 => (intro wx hSw; go_simp; (try with_reducible rfl))
  (try simp only [Act.put, List.setIfInBounds_toArray, List.set_cons_zero, List.set_cons_succ])
  refine' Batch.det_take 3 (v := ?v3) ?hi3 (by kernel_rfl) (by kernel_rfl) (by kernel_rfl) (Batch.Does.val ?hw3 ?hv3) ?rest3
  case hi3 => (simp only [List.getElem?_toArray, List.getElem?_cons_succ, List.getElem?_cons_zero]; rfl)
  case hw3 => rfl
  case hv3 => (intro wx hSw; go_simp; (try with_reducible rfl))
  (try simp only [Act.put, List.setIfInBounds_toArray, List.set_cons_zero, List.set_cons_succ])
  refine' Batch.det_take 4 (v := ?v4) ?hi4 (by kernel_rfl) (by kernel_rfl) (by kernel_rfl) (Batch.Does.val ?hw4 ?hv4) ?rest4
  case hi4 => (simp only [List.getElem?_toArray, List.getElem?_cons_succ, List.getElem?_cons_zero]; rfl)
  case hw4 => rfl
  case hv4 => (intro wx hSw; go_simp; (try with_reducible rfl))
  (try simp only [Act.put, List.setIfInBounds_toArray, List.set_cons_zero, List.set_cons_succ])
  refine' Batch.det_take 5 (v := ?v5) ?hi5 (by kernel_rfl) (by kernel_rfl) (by kernel_rfl) (Batch.Does.val ?hw5 ?hv5) ?rest5
  case hi5 => (simp only [List.getElem?_toArray, List.getElem?_cons_succ, List.getElem?_cons_zero]; rfl)
  case hw5 => rfl
  case hv5 => (intro wx hSw; go_simp; (try with_reducible rfl))
  (try simp only [Act.put, List.setIfInBounds_toArray, List.set_cons_zero, List.set_cons_succ])
  refine' Batch.det_take 6 (v := ?v6) ?hi6 (by kernel_rfl) (by kernel_rfl) (by kernel_rfl) (Batch.Does.val ?hw6 ?hv6) ?rest6
  case hi6 => (simp only [List.getElem?_toArray, List.getElem?_cons_succ, List.getElem?_cons_zero]; rfl)
  case hw6 => rfl
  case hv6 => (intro wx hSw; go_simp; (try with_reducible rfl))
  (try simp only [Act.put, List.setIfInBounds_toArray, List.set_cons_zero, List.set_cons_succ])
  refine Batch.det_done (by kernel_rfl) (fun v1 hS => ?_) _
  obtain rfl := hS
  go_upto_region 7 with fail
  refine Batch.wp_region_det (S := fun W => W = w'.drew.drew) (by kernel_rfl) rfl ?_
  refine' Batch.det_take 0 (v := ?v10) ?hi10 (by kernel_rfl) (by kernel_rfl) (by kernel_rfl) (Batch.Does.val ?hw10 ?hv10) ?rest10
  case hi10 => (simp only [List.getElem?_toArray, List.getElem?_cons_zero]; rfl)
  case hw10 => rfl
  case hv10 => (intro wx hSw; go_simp; (try with_reducible rfl))
  (try simp only [Act.put, List.setIfInBounds_toArray, List.set_cons_zero, List.set_cons_succ])
  refine' Batch.det_take 1 (v := ?v11) ?hi11 (by kernel_rfl) (by kernel_rfl) (by kernel_rfl) (Batch.Does.val ?hw11 ?hv11) ?rest11
  case hi11 => (simp only [List.getElem?_toArray, List.getElem?_cons_succ, List.getElem?_cons_zero]; rfl)
  case hw11 => rfl
  case hv11 => (intro wx hSw; go_simp; (try with_reducible rfl))
  (try simp only [Act.put, List.setIfInBounds_toArray, List.set_cons_zero, List.set_cons_succ])
  refine' Batch.det_take 2 (v := ?v12) ?hi12 (by kernel_rfl) (by kernel_rfl) (by kernel_rfl) (Batch.Does.val ?hw12 ?hv12) ?rest12
  case hi12 => (simp only [List.getElem?_toArray, List.getElem?_cons_succ, List.getElem?_cons_zero]; rfl)
  case hw12 => rfl
  case hv12 => (intro wx hSw; go_simp; (try with_reducible rfl))
  (try simp only [Act.put, List.setIfInBounds_toArray, List.set_cons_zero, List.set_cons_succ])
  refine' Batch.det_take 3 (v := ?v13) ?hi13 (by kernel_rfl) (by kernel_rfl) (by kernel_rfl) (Batch.Does.val ?hw13 ?hv13) ?rest13
  case hi13 => (simp only [List.getElem?_toArray, List.getElem?_cons_succ, List.getElem?_cons_zero]; rfl)
  case hw13 => rfl
  case hv13 => (intro wx hSw; go_simp; (try with_reducible rfl))
  (try simp only [Act.put, List.setIfInBounds_toArray, List.set_cons_zero, List.set_cons_succ])
  refine' Batch.det_take 4 (v := ?v14) ?hi14 (by kernel_rfl) (by kernel_rfl) (by kernel_rfl) (Batch.Does.val ?hw14 ?hv14) ?rest14
  case hi14 => (simp only [List.getElem?_toArray, List.getElem?_cons_succ, List.getElem?_cons_zero]; rfl)
  case hw14 => rfl
  case hv14 => (intro wx hSw; go_simp; (try with_reducible rfl))
  (try simp only [Act.put, List.setIfInBounds_toArray, List.set_cons_zero, List.set_cons_succ])
  refine' Batch.det_take 5 (v := ?v15) ?hi15 (by kernel_rfl) (by kernel_rfl) (by kernel_rfl) (Batch.Does.val ?hw15 ?hv15) ?rest15
  case hi15 => (simp only [List.getElem?_toArray, List.getElem?_cons_succ, List.getElem?_cons_zero]; rfl)
  case hw15 => rfl
  case hv15 => (intro wx hSw; go_simp; (try with_reducible rfl))
  (try simp only [Act.put, List.setIfInBounds_toArray, List.set_cons_zero, List.set_cons_succ])
  refine' Batch.det_take 6 (v := ?v16) ?hi16 (by kernel_rfl) (by kernel_rfl) (by kernel_rfl) (Batch.Does.val ?hw16 ?hv16) ?rest16
  case hi16 => (simp only [List.getElem?_toArray, List.getElem?_cons_succ, List.getElem?_cons_zero]; rfl)
  case hw16 => rfl
  case hv16 => (intro wx hSw; go_simp; (try with_reducible rfl))
  (try simp only [Act.put, List.setIfInBounds_toArray, List.set_cons_zero, List.set_cons_succ])
  refine' Batch.det_take 7 (v := .int .i64 (-1)) ?hi17 (by kernel_rfl) (by kernel_rfl) (by kernel_rfl) (Batch.Does.call ?hw17 ?hv17 ?hc17) ?rest17
  case hi17 => (simp only [List.getElem?_toArray, List.getElem?_cons_succ, List.getElem?_cons_zero]; rfl)
  case hw17 => rfl
  case hv17 => (intro wx hSw; go_simp; (first | done | exact ⟨rfl, rfl⟩ | with_reducible rfl))
  case hc17 => (intro wx hSw; subst hSw; refine (HB.out _).mono ?_; rintro e wy ⟨rfl, rfl⟩; exact ⟨rfl, rfl⟩)
  (try simp only [Act.put, List.setIfInBounds_toArray, List.set_cons_zero, List.set_cons_succ])
  refine' Batch.det_take 8 (v := ?v18) ?hi18 (by kernel_rfl) (by kernel_rfl) (by kernel_rfl) (Batch.Does.val ?hw18 ?hv18) ?rest18
  case hi18 => (simp only [List.getElem?_toArray, List.getElem?_cons_succ, List.getElem?_cons_zero]; rfl)
  case hw18 => rfl
  case hv18 => (intro wx hSw; go_simp; (try with_reducible rfl))
  (try simp only [Act.put, List.setIfInBounds_toArray, List.set_cons_zero, List.set_cons_succ])
  refine Batch.det_done (by kernel_rfl) (fun v2 hS => ?_) _
  obtain rfl := hS
  go_wp2_with fail
  simp only [Exit.noGoto, Exit.inBlock, Exit.then]
  go_ret
  exact ⟨rfl, Below.drew (Below.drew (Below.refl _ _))⟩
set_option maxHeartbeats 3200000 in
set_option maxRecDepth 100000 in
theorem idxR_more (r : Int) (h1 : 2048 ≤ r) (hv : Utf8.valid r = true) (h3 : r ≠ 65533) (w : World) :
    Calls Tryz.prog 129 #[.string ⟨#[47, 46]⟩, .int .i32 r] w fun e w' => e = .returned (.int .i64 (-1)) ∧ Below w.heap.size w w' := by
  have hz := enc_more h1 hv
  have hv2 : Lib.validRune r = true := by rw [valid_same]; exact hv
  have HV := Lib.hid (fun wx => Tryz.utf8_ValidRune r wx)
  rw [hv2] at HV
  have p1 : (0 : Int) ≤ r := by omega
  have p2 : ¬ r < 128 := by omega
  have p3 : (r == 65533) = false := beq_eq_false_iff_ne.2 h3
  have hcv := fun wx => run_convert_int_string (P := Tryz.prog) wx 21 9 .i32 r (by rw [Tryz.underlying21]; rfl) Tryz.underlying9
  obtain ⟨E, hE⟩ : ∃ E, E = Utf8.encode r := ⟨_, rfl⟩
  rw [← hE] at hcv hz
  have hw1 : IntKind.i64.wrap ((E.size : Int) - 1) = (E.size : Int) - 1 := wrap_small _ (by omega) (by omega)
  have p5 : ¬ ((E.size : Int) - 1 < 2) := by omega
  have p6 : decide ((E.size : Int) - 1 < 2) = false := decide_eq_false p5
  have hz1 := hz.1
  have hz2 := hz.2
  clear hv hv2 h1 h3 hE hz
  go_enter Tryz.func129, Tryz.ntmps129
  go_wp2_with (go_at_call 171; refine (HV.out _).mono ?_; rintro e w' ⟨rfl, rfl⟩)
  go_step3
  go_wp2_with fail
  refine wp_loop_rounds 1 ?_
  rw [rounds_succ]
  go_wp2_with fail
  simp only [Exit.noGoto, Exit.inBlock]
  go_ret
  exact ⟨rfl, Below.refl _ _⟩
theorem idxR_high (r : Int) (h1 : 128 ≤ r) (hv : Utf8.valid r = true) (w : World) :
    Calls Tryz.prog 129 #[.string ⟨#[47, 46]⟩, .int .i32 r] w fun e w' => e = .returned (.int .i64 (-1)) ∧ Below w.heap.size w w' := by
  by_cases h3 : r = 65533
  · subst h3; exact idxR_err w
  · by_cases h2 : r < 2048
    · exact idxR_two r h1 h2 w
    · exact idxR_more r (by omega) hv h3 w
/-- what the walk over a text's runes knows -/
structure Ir (w wx : World) (s C : ByteArray) (i : Nat) : Prop where
  le : i ≤ s.size
  it : wx.heap[w.heap.size]? = some (.stringIter s i)
  below : Below w.heap.size w wx
  no : Lib.NoAny s.data.toList C.data.toList i
theorem Ir.next {w wx : World} {s C : ByteArray} {i : Nat} (h : Ir w wx s C i) (k : Nat) : (wx.iterAt w.heap.size s k).heap[w.heap.size]? = some (.stringIter s k) ∧ Below w.heap.size w (wx.iterAt w.heap.size s k) ∧ w.heap.size < (wx.iterAt w.heap.size s k).heap.size := by
  refine ⟨Lib.iterAt_heap wx _ s i k h.it, Lib.below_iterAt h.below (Nat.le_refl _) s k, ?_⟩
  rw [Lib.iterAt_size]
  exact (Array.getElem?_eq_some_iff.1 h.it).1
theorem no_high {x : UInt8} (h : 128 ≤ x.toNat) : ([47, 46] : List UInt8).contains x = false := by
  rw [List.contains_eq_mem, decide_eq_false_iff_not]
  simp only [List.mem_cons, List.not_mem_nil, or_false]
  rintro (rfl | rfl) <;> exact absurd h (by decide)
theorem no_wide {s : ByteArray} {i : Nat} (hi : i < s.size) (h : 128 ≤ (s[i]'hi).toNat) (hno : Lib.NoAny s.data.toList [47, 46] i) :
    i + (Utf8.decode s i).2 ≤ s.size ∧ Lib.NoAny s.data.toList [47, 46] (i + (Utf8.decode s i).2) := by
  have h1 := (decode_high s i hi h).2
  have hw := fun k h1 hk => decode_wide s i k h1 hk
  obtain ⟨d, hd⟩ : ∃ d, d = (Utf8.decode s i).2 := ⟨_, rfl⟩
  rw [← hd] at h1 hw ⊢
  refine ⟨?_, fun j b hj hb => ?_⟩
  · by_cases h2 : d = 1
    · omega
    · have := (hw (d - 1) (by omega) (by omega)).1; omega
  · by_cases h2 : j < i
    · exact hno j b h2 hb
    · by_cases h3 : j = i
      · subst h3
        rw [Lib.data_getElem? s j hi] at hb
        obtain rfl := Option.some.inj hb
        exact no_high h
      · obtain ⟨g1, g2⟩ := hw (j - i) (by omega) (by omega)
        have e : i + (j - i) = j := by omega
        rw [e] at g1 g2
        rw [get_lt s j g1] at hb
        obtain rfl := Option.some.inj hb
        exact no_high g2
set_option maxHeartbeats 6400000 in
set_option maxRecDepth 100000 in
theorem idxA_short (s : ByteArray) (h8 : s.size ≤ 8) (w : World) :
    Calls Tryz.prog 88 #[.string s, .string ⟨#[47, 46]⟩] w fun e w' => e = .returned (.int .i64 (Lib.indexAny s.data.toList [47, 46])) ∧ Below w.heap.size w w' := by
  have HS8 := Lib.hid (fun wx => Tryz.strings_shouldUseASCIISet s.size wx)
  have h8z : decide ((8 : Int) < (s.size : Int)) = false := decide_eq_false (by omega)
  rw [h8z] at HS8
  have HR1 := Lib.hid (fun (x : UInt8) wx (h : x.toNat < 128) => Tryz.strings_IndexRune_ascii ⟨#[47, 46]⟩ (x.toNat : Int) wx (by omega) (by omega))
  have HR2 := Lib.hid (fun r (h1 : (128 : Int) ≤ r) hv wx => idxR_high r h1 hv wx)
  show Calls Tryz.prog 88 #[.string s, .string ⟨#[47, 46]⟩] w fun e w' => e = .returned (.int .i64 (Lib.indexAny s.data.toList (⟨#[47, 46]⟩ : ByteArray).data.toList)) ∧ Below w.heap.size w w'
  obtain ⟨C, hC⟩ : ∃ C : ByteArray, C = ⟨#[47, 46]⟩ := ⟨_, rfl⟩
  have hemp : C.toList.isEmpty = false := by rw [hC, Lib.toList_data]; rfl
  have hn1 : ((C.size : Int) == 1) = false := by rw [hC]; rfl
  have HCL := Lib.hid (show C.data.toList = [47, 46] by rw [hC])
  rw [← hC] at HR1 HR2 ⊢
  clear hC h8z h8
  go_enter Tryz.func88, Tryz.ntmps88
  go_wp2_with (go_at_call 130; refine (HS8.out _).mono ?_; rintro e w' ⟨rfl, rfl⟩)
  go_loopg [9, 10] s.size (fun g _ _ wx => ∃ i : Nat, g = s.size - i ∧ RowKit.Hid (Ir w' wx s C i))
  case atStart => exact ⟨0, rfl, Lib.hid ⟨Nat.zero_le _, World.iter_heap w' s 0, (Below.refl _ _).alloc (Nat.le_refl _) _, Lib.NoAny.zero _ _⟩⟩
  case round =>
    obtain ⟨i, hig, HI⟩ := hrel
    by_cases hi : i < s.size
    · obtain ⟨x, hx⟩ : ∃ x : UInt8, s[i]'hi = x := ⟨_, rfl⟩
      have HX := Lib.hid (show s.data.toList[i]? = some x by rw [← hx]; exact Lib.data_getElem? s i hi)
      by_cases hx128 : x.toNat < 128
      · have hnx := fun ty => Lib.run_next_ascii_at (P := Tryz.prog) wr w'.heap.size s i ty HI.out.it hi (by rw [hx]; exact hx128)
        rw [hx] at hnx
        have HN := Lib.hid (HI.out.next (i + 1))
        obtain ⟨W1, hW1⟩ : ∃ W1, W1 = wr.iterAt w'.heap.size s (i + 1) := ⟨_, rfl⟩
        rw [← hW1] at hnx HN
        have hback : ((x.toNat : Int)).toNat.toUInt8 = x := by simp
        have hrx := fun wx => HR1.out x wx hx128
        rw [hback] at hrx
        have HRx := Lib.hid hrx
        have hcon := Lib.contains_iff_indexByte C.data.toList x
        clear hrx hback hx hW1 hx128
        cases hin : C.data.toList.contains x
        · rw [hin] at hcon
          have hlt : ¬ ((0 : Int) ≤ Lib.indexByte C.data.toList x) := of_decide_eq_false hcon.symm
          have HIN := Lib.hid hin
          clear hcon hin
          go_wp2_with (go_at_call 129; refine (HRx.out _).mono ?_; rintro e w2 ⟨rfl, rfl⟩)
          go_roundg (s.size - (i + 1))
          case measure => omega
          case rel => exact ⟨i + 1, rfl, Lib.hid ⟨hi, HN.out.1, HN.out.2.1, HI.out.no.succ HX.out HIN.out⟩⟩
        · rw [hin] at hcon
          have hge : (0 : Int) ≤ Lib.indexByte C.data.toList x := of_decide_eq_true hcon.symm
          have HIN := Lib.hid hin
          clear hcon hin
          go_wp2_with (go_at_call 129; refine (HRx.out _).mono ?_; rintro e w2 ⟨rfl, rfl⟩)
          go_ret
          exact ⟨by rw [Lib.indexAny_hit HI.out.no HX.out HIN.out]; rfl, HN.out.2.1⟩
      · have hnx := fun ty => Lib.run_next_any_at (P := Tryz.prog) wr w'.heap.size s i ty HI.out.it hi
        have hdh := (decode_high s i hi (by rw [hx]; omega)).1
        have hrx := fun wx => HR2.out (((Utf8.decode s i).1 : Nat) : Int) (by omega) (decode_valid s i) wx
        have HNW := Lib.hid (no_wide hi (by rw [hx]; omega) (by rw [← HCL.out]; exact HI.out.no))
        have HN := Lib.hid (HI.out.next (i + (Utf8.decode s i).2))
        have hd1 := (decode_high s i hi (by rw [hx]; omega)).2
        obtain ⟨d, hd⟩ : ∃ d, d = (Utf8.decode s i).2 := ⟨_, rfl⟩
        obtain ⟨r, hr⟩ : ∃ r, r = (Utf8.decode s i).1 := ⟨_, rfl⟩
        rw [← hd] at hnx HN HNW hd1
        rw [← hr] at hnx hrx
        obtain ⟨W1, hW1⟩ : ∃ W1, W1 = wr.iterAt w'.heap.size s (i + d) := ⟨_, rfl⟩
        rw [← hW1] at hnx HN
        have HRx := Lib.hid hrx
        have HD1 := Lib.hid hd1
        clear hrx hx hW1 hd hr hdh hd1 hx128
        have hm1 : ¬ ((0 : Int) ≤ -1) := by decide
        go_wp2_with (go_at_call 129; refine (HRx.out _).mono ?_; rintro e w2 ⟨rfl, hb⟩; have HB2 := Lib.hid hb; clear hb)
        go_roundg (s.size - (i + d))
        case measure => have := HD1.out; omega
        case rel => exact ⟨i + d, rfl, Lib.hid ⟨HNW.out.1, by rw [HB2.out.block _ HN.out.2.2]; exact HN.out.1, HN.out.2.1.trans (HB2.out.mono HN.out.2.1.size), by rw [HCL.out]; exact HNW.out.2⟩⟩
    · have hnx := fun ty => Lib.run_next_end_at (P := Tryz.prog) wr w'.heap.size s i ty HI.out.it hi
      have HI2 := Lib.hid (show i = s.size by have := HI.out.le; omega)
      go_wp2
      go_ret
      refine ⟨?_, HI.out.below⟩
      have h1 := HI.out.no
      rw [HI2.out, ← len_list] at h1
      rw [Lib.indexAny_none h1]; rfl
/-- strings.IndexAny of '/' and '.', for any text -/
theorem idxA_any (s : ByteArray) (hs : s.size ≤ 1000) (w : World) :
    Calls Tryz.prog 88 #[.string s, .string ⟨#[47, 46]⟩] w fun e w' => e = .returned (.int .i64 (Lib.indexAny s.data.toList [47, 46])) ∧ Below w.heap.size w w' := by
  by_cases h : s.size ≤ 8
  · exact idxA_short s h w
  · refine (Tryz.strings_IndexAny_long ?_ s ⟨#[47, 46]⟩ w (by decide) (by omega) (by omega) (by decide) ?_).mono ?_
    · exact (zero_of_info (P := Tryz.prog) (t := 141) (n := 256) (by kernel_rfl)).1
    · intro j b hb
      have hm := List.mem_of_getElem? hb
      rcases (by simpa using hm : b = 47 ∨ b = 46) with rfl | rfl <;> decide
    · rintro e w' ⟨rfl, rfl⟩
      exact ⟨rfl, ((Below.refl _ _).alloc (Nat.le_refl _) _).alloc (by rw [push_size]; omega) _⟩
end Go.Proofs.YtdgbplppabalgaaGreatDoor

namespace Go.Proofs.YtdgbplppabalgaaGreatDoor
open Go.RowKit

/-- an integer of the reference in a box of its own -/
structure Vx (w W : World) (g : Nat) (b : Bool) (o : Option Addr) (c : Nat) (L : List Nat) (z : Int) : Prop where
  box : BxT W (w.heap.size + 1) g 43 (.bool b) (.slice o L.length c)
  wh : Wh W b o c L z
section
variable {w W W' : World} {g : Nat} {b : Bool} {o : Option Addr} {c : Nat} {L : List Nat} {z : Int}
theorem Vx.to (h : Vx w W g b o c L z) (hb : Below W.heap.size W W') : Vx w W' g b o c L z := ⟨h.box.kept hb, h.wh.below hb⟩
theorem Vx.new (X : Bz w W) (h : Wh W b o c L z) : Vx w (W.alloc (.cells #[.bool b, .slice o L.length c] 43)) W.heap.size b o c L z :=
  ⟨BxT.new W (w.heap.size + 1) (by have := X.res.lt.2; omega) 43 _ _, h.below ((Below.refl _ _).alloc (Nat.le_refl _) _)⟩
theorem Bz.more (X : Bz w W) (O : Obj) : Bz w (W.alloc O) := X.to ((Below.refl _ _).alloc (Nat.le_refl _) _)
theorem Vx.more (h : Vx w W g b o c L z) (O : Obj) : Vx w (W.alloc O) g b o c L z := h.to ((Below.refl _ _).alloc (Nat.le_refl _) _)
/-- another value is stored in it -/
theorem Vx.put {b' : Bool} {o' : Option Addr} {c' : Nat} {L' : List Nat} {z' : Int} (h : Vx w W g b o c L z) (h' : Wh W b' o' c' L' z') (hne : ∀ g', o' = some ⟨g', 0, none⟩ → g' ≠ g) :
    Vx w ((W.setCell ⟨g, 0, none⟩ (.bool b')).setCell ⟨g, 1, none⟩ (.slice o' L'.length c')) g b' o' c' L' z' :=
  ⟨(h.box.set0 _).set1 _, (h'.stored g 0 _ hne).stored g 1 _ hne⟩
/-- a value is stored elsewhere -/
theorem Vx.far (h : Vx w W g b o c L z) {gx : Nat} (hg : g ≠ gx) (u v : Value) (hne : ∀ g', o = some ⟨g', 0, none⟩ → g' ≠ gx) :
    Vx w ((W.setCell ⟨gx, 0, none⟩ u).setCell ⟨gx, 1, none⟩ v) g b o c L z :=
  ⟨(h.box.other (p := ⟨gx, 0, none⟩) hg u).other (p := ⟨gx, 1, none⟩) hg v, (h.wh.stored gx 0 u hne).stored gx 1 v hne⟩
theorem Wh.far (h : Wh W b o c L z) {gx : Nat} (u v : Value) (hne : ∀ g', o = some ⟨g', 0, none⟩ → g' ≠ gx) :
    Wh ((W.setCell ⟨gx, 0, none⟩ u).setCell ⟨gx, 1, none⟩ v) b o c L z := (h.stored gx 0 u hne).stored gx 1 v hne
theorem Bz.far (X : Bz w W) {gx : Nat} (hg : w.heap.size + 1 ≤ gx) (u v : Value) : Bz w ((W.setCell ⟨gx, 0, none⟩ u).setCell ⟨gx, 1, none⟩ v) :=
  ⟨(X.below.setCell (p := ⟨gx, 0, none⟩) (by show w.heap.size ≤ gx; omega) u).setCell (p := ⟨gx, 1, none⟩) (by show w.heap.size ≤ gx; omega) v,
    (X.res.other (p := ⟨gx, 0, none⟩) (by show w.heap.size ≠ gx; omega) u).other (p := ⟨gx, 1, none⟩) (by show w.heap.size ≠ gx; omega) v⟩
theorem Wh.old (h : Wh W b o c L z) {G : Nat} (hG : W.heap.size ≤ G) : ∀ g', o = some ⟨g', 0, none⟩ → g' ≠ G := fun g' e => by have := h.pd.lt g' e; omega
theorem Wf.fresh {B G : Nat} (h : Wf B W b o c L z) (hG : G < B) : ∀ g', o = some ⟨g', 0, none⟩ → g' ≠ G := h.new.ne hG
end
set_option maxHeartbeats 6400000 in
set_option maxRecDepth 100000 in
theorem prR_none_bad1 (s t : ByteArray) (w : World) (hs0 : Std w) (q0 : ¬ (400 : Int) < s.size)
    (HTP : ∀ wx, Calls Tryz.prog 18 #[.string s, .string ⟨#[45]⟩] wx fun e w' => e = .returned (.string t) ∧ wx = w')
    (HIA : ∀ wx, Calls Tryz.prog 88 #[.string t, .string ⟨#[47, 46]⟩] wx fun e w' => e = .returned (.int .i64 (-1)) ∧ Below wx.heap.size wx w')
    (HOF : ∀ wx, Std wx → Calls Tryz.prog 60 #[.int .i64 1] wx fun e w' => (∃ (b : Bool) (o : Option Addr) (c : Nat) (L : List Nat), e = .returned (whV b o c L) ∧ Wf wx.heap.size w' b o c L (1)) ∧ Below wx.heap.size wx w')
    (HD1 : ∀ wx, Calls Tryz.prog 89 #[.string t] wx fun e w' => e = .returned (.bool false) ∧ wx = w') :
    Calls Tryz.prog 31 #[.string s] w fun e w' => e = .returned (.tuple #[ratV ⟨#[]⟩ ⟨#[]⟩, .int .i64 15]) ∧ Below w.heap.size w w' := by
  have HTP_ := Lib.hid HTP
  clear HTP
  have HTP := HTP_
  clear HTP_
  have HIA_ := Lib.hid HIA
  clear HIA
  have HIA := HIA_
  clear HIA_
  have HOF_ := Lib.hid HOF
  clear HOF
  have HOF := HOF_
  clear HOF_
  have HD1_ := Lib.hid HD1
  clear HD1
  have HD1 := HD1_
  clear HD1_
  have HS := Lib.hid hs0
  clear hs0
  go_enter Tryz.func31, Tryz.ntmps31
  go_upto_region 1 with fail
  have Z0 := Lib.hid (Bz.new w)
  obtain ⟨w0, hw0⟩ : ∃ w0, w0 = w.alloc (.cells #[.string ⟨#[]⟩, .string ⟨#[]⟩] 24) := ⟨_, rfl⟩
  rw [← hw0] at Z0 ⊢
  clear hw0
  go_wp2_with fail
  refine (HTP.out _).mono ?_
  rintro e wq ⟨rfl, b⟩
  obtain rfl := b
  go_wp2_with fail
  refine (HIA.out _).mono ?_
  rintro e w1 ⟨rfl, b⟩
  have Z1 := Lib.hid (Z0.out.to b)
  clear b Z0
  go_wp2_with fail
  refine (HOF.out _ (HS.out.below Z1.out.below)).mono ?_
  rintro e w2 ⟨⟨bd, od, cd, Ld, rfl, h⟩, b⟩
  have Wd := Lib.hid h
  clear h
  have Z2 := Lib.hid (Z1.out.to b)
  clear b Z1
  go_upto_region 6 with fail
  have Z_ := Lib.hid (Z2.out.more (.cells #[.bool bd, .slice od Ld.length cd] 43))
  have VD_ := Lib.hid (Vx.new Z2.out Wd.out.wh)
  have GD := Lib.hid (show w.heap.size + 1 ≤ w2.heap.size from by have := Z2.out.res.lt.2; omega)
  have ALdd := Lib.hid (Wd.out.wh.old (Nat.le_refl _))
  obtain ⟨gd, hgd⟩ : ∃ g, g = w2.heap.size := ⟨_, rfl⟩
  obtain ⟨V1, hV1⟩ : ∃ V, V = w2.alloc (.cells #[.bool bd, .slice od Ld.length cd] 43) := ⟨_, rfl⟩
  rw [← hgd] at VD_ GD ALdd
  rw [← hV1] at Z_ VD_ ⊢
  (try rw [← hgd])
  clear hgd hV1 Wd Z2
  have Z3 := Z_
  have VD3 := VD_
  clear Z_ VD_
  go_wp2_with fail
  refine (HD1.out _).mono ?_
  rintro e wq ⟨rfl, b⟩
  obtain rfl := b
  obtain ⟨y0, y1, y2, y3, y4, y5, y6⟩ := Z3.out.res.stores (.string ⟨#[]⟩) (.string ⟨#[]⟩)
  have HBE := Lib.hid ((Z3.out.below.setCell (p := ⟨w.heap.size, 0, none⟩) (Nat.le_refl _) (.string ⟨#[]⟩)).setCell (p := ⟨w.heap.size, 1, none⟩) (Nat.le_refl _) (.string ⟨#[]⟩))
  go_wp2_with fail
  (try simp only [Exit.inBlock, Exit.then])
  refine bodyPost_ret (v := .tuple #[ratV ⟨#[]⟩ ⟨#[]⟩, .int .i64 15]) ?_ rfl ⟨rfl, HBE.out⟩
  rw [results_cell_tmp rfl]
  go_simp
set_option maxHeartbeats 6400000 in
set_option maxRecDepth 100000 in
theorem prR_none_pos (s t pa pb : ByteArray) (zf : Int) (w : World) (hs0 : Std w) (q0 : ¬ (400 : Int) < s.size) (hz : (sgnI 1 == 0) = false) (qn : ¬ (t.size : Int) < s.size)
    (HTP : ∀ wx, Calls Tryz.prog 18 #[.string s, .string ⟨#[45]⟩] wx fun e w' => e = .returned (.string t) ∧ wx = w')
    (HIA : ∀ wx, Calls Tryz.prog 88 #[.string t, .string ⟨#[47, 46]⟩] wx fun e w' => e = .returned (.int .i64 (-1)) ∧ Below wx.heap.size wx w')
    (HOF : ∀ wx, Std wx → Calls Tryz.prog 60 #[.int .i64 1] wx fun e w' => (∃ (b : Bool) (o : Option Addr) (c : Nat) (L : List Nat), e = .returned (whV b o c L) ∧ Wf wx.heap.size w' b o c L (1)) ∧ Below wx.heap.size wx w')
    (HD1 : ∀ wx, Calls Tryz.prog 89 #[.string t] wx fun e w' => e = .returned (.bool true) ∧ wx = w')
    (HNF : ∀ wx, Calls Tryz.prog 90 #[.string t] wx fun e w' => (∃ (b : Bool) (o : Option Addr) (c : Nat) (L : List Nat), e = .returned (whV b o c L) ∧ Wf wx.heap.size w' b o c L (zf)) ∧ Below wx.heap.size wx w')
    (HMK : ∀ b1 o1 c1 L1 b2 o2 c2 L2 wx, Std wx → Wh wx b1 o1 c1 L1 zf → Wh wx b2 o2 c2 L2 1 → Calls Tryz.prog 24 #[whV b1 o1 c1 L1, whV b2 o2 c2 L2] wx fun e w' => e = .returned (ratV pa pb) ∧ Below wx.heap.size wx w') :
    Calls Tryz.prog 31 #[.string s] w fun e w' => e = .returned (.tuple #[ratV pa pb, .int .i64 0]) ∧ Below w.heap.size w w' := by
  have HTP_ := Lib.hid HTP
  clear HTP
  have HTP := HTP_
  clear HTP_
  have HIA_ := Lib.hid HIA
  clear HIA
  have HIA := HIA_
  clear HIA_
  have HOF_ := Lib.hid HOF
  clear HOF
  have HOF := HOF_
  clear HOF_
  have HD1_ := Lib.hid HD1
  clear HD1
  have HD1 := HD1_
  clear HD1_
  have HNF_ := Lib.hid HNF
  clear HNF
  have HNF := HNF_
  clear HNF_
  have HMK_ := Lib.hid HMK
  clear HMK
  have HMK := HMK_
  clear HMK_
  have HS := Lib.hid hs0
  clear hs0
  go_enter Tryz.func31, Tryz.ntmps31
  go_upto_region 1 with fail
  have Z0 := Lib.hid (Bz.new w)
  obtain ⟨w0, hw0⟩ : ∃ w0, w0 = w.alloc (.cells #[.string ⟨#[]⟩, .string ⟨#[]⟩] 24) := ⟨_, rfl⟩
  rw [← hw0] at Z0 ⊢
  clear hw0
  go_wp2_with fail
  refine (HTP.out _).mono ?_
  rintro e wq ⟨rfl, b⟩
  obtain rfl := b
  go_wp2_with fail
  refine (HIA.out _).mono ?_
  rintro e w1 ⟨rfl, b⟩
  have Z1 := Lib.hid (Z0.out.to b)
  clear b Z0
  go_wp2_with fail
  refine (HOF.out _ (HS.out.below Z1.out.below)).mono ?_
  rintro e w2 ⟨⟨bd, od, cd, Ld, rfl, h⟩, b⟩
  have Wd := Lib.hid h
  clear h
  have Z2 := Lib.hid (Z1.out.to b)
  clear b Z1
  go_upto_region 6 with fail
  have Z_ := Lib.hid (Z2.out.more (.cells #[.bool bd, .slice od Ld.length cd] 43))
  have VD_ := Lib.hid (Vx.new Z2.out Wd.out.wh)
  have GD := Lib.hid (show w.heap.size + 1 ≤ w2.heap.size from by have := Z2.out.res.lt.2; omega)
  have ALdd := Lib.hid (Wd.out.wh.old (Nat.le_refl _))
  obtain ⟨gd, hgd⟩ : ∃ g, g = w2.heap.size := ⟨_, rfl⟩
  obtain ⟨V1, hV1⟩ : ∃ V, V = w2.alloc (.cells #[.bool bd, .slice od Ld.length cd] 43) := ⟨_, rfl⟩
  rw [← hgd] at VD_ GD ALdd
  rw [← hV1] at Z_ VD_ ⊢
  (try rw [← hgd])
  clear hgd hV1 Wd Z2
  have Z3 := Z_
  have VD3 := VD_
  clear Z_ VD_
  go_wp2_with fail
  refine (HD1.out _).mono ?_
  rintro e wq ⟨rfl, b⟩
  obtain rfl := b
  go_wp2_with fail
  refine (HNF.out _).mono ?_
  rintro e w4 ⟨⟨bn, on, cn, Ln, rfl, h⟩, b⟩
  have Wn := Lib.hid h
  clear h
  have ALnd := Lib.hid (Wn.out.fresh VD3.out.box.lt.2)
  have Z4 := Lib.hid (Z3.out.to b)
  have VD4 := Lib.hid (VD3.out.to b)
  clear b Z3 VD3
  go_upto_region 11 with fail
  have Z_ := Lib.hid (Z4.out.more (.cells #[.bool bn, .slice on Ln.length cn] 43))
  have VD_ := Lib.hid (VD4.out.more (.cells #[.bool bn, .slice on Ln.length cn] 43))
  have VN_ := Lib.hid (Vx.new Z4.out Wn.out.wh)
  have GN := Lib.hid (show w.heap.size + 1 ≤ w4.heap.size from by have := Z4.out.res.lt.2; omega)
  have NE := Lib.hid (show gd ≠ w4.heap.size from by have := VD4.out.box.lt.2; omega)
  have ALnn := Lib.hid (Wn.out.wh.old (Nat.le_refl _))
  have ALdn := Lib.hid (VD4.out.wh.old (Nat.le_refl _))
  obtain ⟨gn, hgn⟩ : ∃ g, g = w4.heap.size := ⟨_, rfl⟩
  obtain ⟨V2, hV2⟩ : ∃ V, V = w4.alloc (.cells #[.bool bn, .slice on Ln.length cn] 43) := ⟨_, rfl⟩
  rw [← hgn] at VN_ GN NE ALnn ALdn
  rw [← hV2] at Z_ VD_ VN_ ⊢
  (try rw [← hgn])
  clear hgn hV2 Wn Z4 VD4
  have Z5 := Z_
  have VD5 := VD_
  have VN5 := VN_
  clear Z_ VD_ VN_
  obtain ⟨d0, d1⟩ := And.intro VD5.out.box.c0 VD5.out.box.c1
  go_wp2_with fail
  refine (signWY_any bd od cd Ld 1 _ VD5.out.wh).mono ?_
  rintro e w6 ⟨rfl, b⟩
  clear d0 d1
  have Z6 := Lib.hid (Z5.out.to b)
  have VD6 := Lib.hid (VD5.out.to b)
  have VN6 := Lib.hid (VN5.out.to b)
  clear b Z5 VD5 VN5
  obtain ⟨c0, c1⟩ := And.intro VN6.out.box.c0 VN6.out.box.c1
  obtain ⟨d0, d1⟩ := And.intro VD6.out.box.c0 VD6.out.box.c1
  go_wp2_with fail
  refine (HMK.out bn on cn Ln bd od cd Ld _ (HS.out.below Z6.out.below) VN6.out.wh VD6.out.wh).mono ?_
  rintro e wz ⟨rfl, b⟩
  have ZZ := Z6.out.to b
  obtain ⟨y0, y1, y2, y3, y4, y5, y6⟩ := ZZ.res.stores (.string pa) (.string pb)
  have HBE := Lib.hid ((ZZ.below.setCell (p := ⟨w.heap.size, 0, none⟩) (Nat.le_refl _) (.string pa)).setCell (p := ⟨w.heap.size, 1, none⟩) (Nat.le_refl _) (.string pb))
  clear c0 c1 d0 d1 b ZZ
  go_wp2_with fail
  (try simp only [Exit.inBlock, Exit.then])
  refine bodyPost_ret (v := .tuple #[ratV pa pb, .int .i64 0]) ?_ rfl ⟨rfl, HBE.out⟩
  rw [results_cell_tmp rfl]
  go_simp
set_option maxHeartbeats 6400000 in
set_option maxRecDepth 100000 in
theorem prR_none_neg (s t pa pb : ByteArray) (zf : Int) (w : World) (hs0 : Std w) (q0 : ¬ (400 : Int) < s.size) (hz : (sgnI 1 == 0) = false) (qn : (t.size : Int) < s.size)
    (HTP : ∀ wx, Calls Tryz.prog 18 #[.string s, .string ⟨#[45]⟩] wx fun e w' => e = .returned (.string t) ∧ wx = w')
    (HIA : ∀ wx, Calls Tryz.prog 88 #[.string t, .string ⟨#[47, 46]⟩] wx fun e w' => e = .returned (.int .i64 (-1)) ∧ Below wx.heap.size wx w')
    (HOF : ∀ wx, Std wx → Calls Tryz.prog 60 #[.int .i64 1] wx fun e w' => (∃ (b : Bool) (o : Option Addr) (c : Nat) (L : List Nat), e = .returned (whV b o c L) ∧ Wf wx.heap.size w' b o c L (1)) ∧ Below wx.heap.size wx w')
    (HD1 : ∀ wx, Calls Tryz.prog 89 #[.string t] wx fun e w' => e = .returned (.bool true) ∧ wx = w')
    (HNF : ∀ wx, Calls Tryz.prog 90 #[.string t] wx fun e w' => (∃ (b : Bool) (o : Option Addr) (c : Nat) (L : List Nat), e = .returned (whV b o c L) ∧ Wf wx.heap.size w' b o c L (zf)) ∧ Below wx.heap.size wx w')
    (HMK : ∀ b1 o1 c1 L1 b2 o2 c2 L2 wx, Std wx → Wh wx b1 o1 c1 L1 (-zf) → Wh wx b2 o2 c2 L2 1 → Calls Tryz.prog 24 #[whV b1 o1 c1 L1, whV b2 o2 c2 L2] wx fun e w' => e = .returned (ratV pa pb) ∧ Below wx.heap.size wx w') :
    Calls Tryz.prog 31 #[.string s] w fun e w' => e = .returned (.tuple #[ratV pa pb, .int .i64 0]) ∧ Below w.heap.size w w' := by
  have HTP_ := Lib.hid HTP
  clear HTP
  have HTP := HTP_
  clear HTP_
  have HIA_ := Lib.hid HIA
  clear HIA
  have HIA := HIA_
  clear HIA_
  have HOF_ := Lib.hid HOF
  clear HOF
  have HOF := HOF_
  clear HOF_
  have HD1_ := Lib.hid HD1
  clear HD1
  have HD1 := HD1_
  clear HD1_
  have HNF_ := Lib.hid HNF
  clear HNF
  have HNF := HNF_
  clear HNF_
  have HMK_ := Lib.hid HMK
  clear HMK
  have HMK := HMK_
  clear HMK_
  have HS := Lib.hid hs0
  clear hs0
  go_enter Tryz.func31, Tryz.ntmps31
  go_upto_region 1 with fail
  have Z0 := Lib.hid (Bz.new w)
  obtain ⟨w0, hw0⟩ : ∃ w0, w0 = w.alloc (.cells #[.string ⟨#[]⟩, .string ⟨#[]⟩] 24) := ⟨_, rfl⟩
  rw [← hw0] at Z0 ⊢
  clear hw0
  go_wp2_with fail
  refine (HTP.out _).mono ?_
  rintro e wq ⟨rfl, b⟩
  obtain rfl := b
  go_wp2_with fail
  refine (HIA.out _).mono ?_
  rintro e w1 ⟨rfl, b⟩
  have Z1 := Lib.hid (Z0.out.to b)
  clear b Z0
  go_wp2_with fail
  refine (HOF.out _ (HS.out.below Z1.out.below)).mono ?_
  rintro e w2 ⟨⟨bd, od, cd, Ld, rfl, h⟩, b⟩
  have Wd := Lib.hid h
  clear h
  have Z2 := Lib.hid (Z1.out.to b)
  clear b Z1
  go_upto_region 6 with fail
  have Z_ := Lib.hid (Z2.out.more (.cells #[.bool bd, .slice od Ld.length cd] 43))
  have VD_ := Lib.hid (Vx.new Z2.out Wd.out.wh)
  have GD := Lib.hid (show w.heap.size + 1 ≤ w2.heap.size from by have := Z2.out.res.lt.2; omega)
  have ALdd := Lib.hid (Wd.out.wh.old (Nat.le_refl _))
  obtain ⟨gd, hgd⟩ : ∃ g, g = w2.heap.size := ⟨_, rfl⟩
  obtain ⟨V1, hV1⟩ : ∃ V, V = w2.alloc (.cells #[.bool bd, .slice od Ld.length cd] 43) := ⟨_, rfl⟩
  rw [← hgd] at VD_ GD ALdd
  rw [← hV1] at Z_ VD_ ⊢
  (try rw [← hgd])
  clear hgd hV1 Wd Z2
  have Z3 := Z_
  have VD3 := VD_
  clear Z_ VD_
  go_wp2_with fail
  refine (HD1.out _).mono ?_
  rintro e wq ⟨rfl, b⟩
  obtain rfl := b
  go_wp2_with fail
  refine (HNF.out _).mono ?_
  rintro e w4 ⟨⟨bn, on, cn, Ln, rfl, h⟩, b⟩
  have Wn := Lib.hid h
  clear h
  have ALnd := Lib.hid (Wn.out.fresh VD3.out.box.lt.2)
  have Z4 := Lib.hid (Z3.out.to b)
  have VD4 := Lib.hid (VD3.out.to b)
  clear b Z3 VD3
  go_upto_region 11 with fail
  have Z_ := Lib.hid (Z4.out.more (.cells #[.bool bn, .slice on Ln.length cn] 43))
  have VD_ := Lib.hid (VD4.out.more (.cells #[.bool bn, .slice on Ln.length cn] 43))
  have VN_ := Lib.hid (Vx.new Z4.out Wn.out.wh)
  have GN := Lib.hid (show w.heap.size + 1 ≤ w4.heap.size from by have := Z4.out.res.lt.2; omega)
  have NE := Lib.hid (show gd ≠ w4.heap.size from by have := VD4.out.box.lt.2; omega)
  have ALnn := Lib.hid (Wn.out.wh.old (Nat.le_refl _))
  have ALdn := Lib.hid (VD4.out.wh.old (Nat.le_refl _))
  obtain ⟨gn, hgn⟩ : ∃ g, g = w4.heap.size := ⟨_, rfl⟩
  obtain ⟨V2, hV2⟩ : ∃ V, V = w4.alloc (.cells #[.bool bn, .slice on Ln.length cn] 43) := ⟨_, rfl⟩
  rw [← hgn] at VN_ GN NE ALnn ALdn
  rw [← hV2] at Z_ VD_ VN_ ⊢
  (try rw [← hgn])
  clear hgn hV2 Wn Z4 VD4
  have Z5 := Z_
  have VD5 := VD_
  have VN5 := VN_
  clear Z_ VD_ VN_
  obtain ⟨d0, d1⟩ := And.intro VD5.out.box.c0 VD5.out.box.c1
  go_wp2_with fail
  refine (signWY_any bd od cd Ld 1 _ VD5.out.wh).mono ?_
  rintro e w6 ⟨rfl, b⟩
  clear d0 d1
  have Z6 := Lib.hid (Z5.out.to b)
  have VD6 := Lib.hid (VD5.out.to b)
  have VN6 := Lib.hid (VN5.out.to b)
  clear b Z5 VD5 VN5
  obtain ⟨c0, c1⟩ := And.intro VN6.out.box.c0 VN6.out.box.c1
  go_wp2_with fail
  refine (negWY_any bn on cn Ln zf _ VN6.out.wh).mono ?_
  rintro e w7 ⟨⟨bm, Lm, rfl, h⟩, b⟩
  have Wm := Lib.hid h
  clear h c0 c1
  have Z7 := Lib.hid (Z6.out.to b)
  have VD7 := Lib.hid (VD6.out.to b)
  have VN7 := Lib.hid (VN6.out.to b)
  clear b Z6 VD6 VN6
  obtain ⟨y0, y1, y2, y3, y4, y5, y6⟩ := VN7.out.box.stores (.bool bm) (.slice on Lm.length cn)
  go_upto_region 19 with fail
  clear y0 y1 y2 y3 y4 y5 y6
  have Z8 := Lib.hid (Z7.out.far GN.out (.bool bm) (.slice on Lm.length cn))
  have VN8 := Lib.hid (VN7.out.put Wm.out ALnn.out)
  have VD8 := Lib.hid (VD7.out.far (gx := gn) (NE.out) (.bool bm) (.slice on Lm.length cn) ALdn.out)
  clear Z7 VD7 VN7
  obtain ⟨V8_, hV_⟩ : ∃ V, V = ((w7.setCell ⟨gn, 0, none⟩ (.bool bm)).setCell ⟨gn, 1, none⟩ (.slice on Lm.length cn)) := ⟨_, rfl⟩
  rw [← hV_] at Z8 VD8 VN8 ⊢
  clear hV_
  obtain ⟨c0, c1⟩ := And.intro VN8.out.box.c0 VN8.out.box.c1
  obtain ⟨d0, d1⟩ := And.intro VD8.out.box.c0 VD8.out.box.c1
  go_wp2_with fail
  refine (HMK.out bm on cn Lm bd od cd Ld _ (HS.out.below Z8.out.below) VN8.out.wh VD8.out.wh).mono ?_
  rintro e wz ⟨rfl, b⟩
  have ZZ := Z8.out.to b
  obtain ⟨y0, y1, y2, y3, y4, y5, y6⟩ := ZZ.res.stores (.string pa) (.string pb)
  have HBE := Lib.hid ((ZZ.below.setCell (p := ⟨w.heap.size, 0, none⟩) (Nat.le_refl _) (.string pa)).setCell (p := ⟨w.heap.size, 1, none⟩) (Nat.le_refl _) (.string pb))
  clear c0 c1 d0 d1 b ZZ
  go_wp2_with fail
  (try simp only [Exit.inBlock, Exit.then])
  refine bodyPost_ret (v := .tuple #[ratV pa pb, .int .i64 0]) ?_ rfl ⟨rfl, HBE.out⟩
  rw [results_cell_tmp rfl]
  go_simp
set_option maxHeartbeats 6400000 in
set_option maxRecDepth 100000 in
theorem prR_slash_bad1 (s t f r : ByteArray) (k : Nat) (w : World) (hs0 : Std w) (q0 : ¬ (400 : Int) < s.size) (hk : k < t.size) (hb : t.size ≤ 1000) (hf : t.extract 0 k = f) (hr : t.extract (k + 1) t.size = r)
    (HTP : ∀ wx, Calls Tryz.prog 18 #[.string s, .string ⟨#[45]⟩] wx fun e w' => e = .returned (.string t) ∧ wx = w')
    (HIA : ∀ wx, Calls Tryz.prog 88 #[.string t, .string ⟨#[47, 46]⟩] wx fun e w' => e = .returned (.int .i64 (k : Int)) ∧ Below wx.heap.size wx w')
    (HOF : ∀ wx, Std wx → Calls Tryz.prog 60 #[.int .i64 1] wx fun e w' => (∃ (b : Bool) (o : Option Addr) (c : Nat) (L : List Nat), e = .returned (whV b o c L) ∧ Wf wx.heap.size w' b o c L (1)) ∧ Below wx.heap.size wx w')
    (HD1 : ∀ wx, Calls Tryz.prog 89 #[.string f] wx fun e w' => e = .returned (.bool false) ∧ wx = w') :
    Calls Tryz.prog 31 #[.string s] w fun e w' => e = .returned (.tuple #[ratV ⟨#[]⟩ ⟨#[]⟩, .int .i64 15]) ∧ Below w.heap.size w w' := by
  have p0 : (0 : Int) ≤ k := by omega
  have p1 : (k : Int) ≤ t.size := by omega
  have hwr : IntKind.i64.wrap ((k : Int) + 1) = (k : Int) + 1 := wrap_small _ (by omega) (by omega)
  have p2 : (0 : Int) ≤ (k : Int) + 1 := by omega
  have p3 : (k : Int) + 1 ≤ t.size := by omega
  have p4 : (k : Int) < t.size := by omega
  clear hb
  have HTP_ := Lib.hid HTP
  clear HTP
  have HTP := HTP_
  clear HTP_
  have HIA_ := Lib.hid HIA
  clear HIA
  have HIA := HIA_
  clear HIA_
  have HOF_ := Lib.hid HOF
  clear HOF
  have HOF := HOF_
  clear HOF_
  have HD1_ := Lib.hid HD1
  clear HD1
  have HD1 := HD1_
  clear HD1_
  have HS := Lib.hid hs0
  clear hs0
  go_enter Tryz.func31, Tryz.ntmps31
  go_upto_region 1 with fail
  have Z0 := Lib.hid (Bz.new w)
  obtain ⟨w0, hw0⟩ : ∃ w0, w0 = w.alloc (.cells #[.string ⟨#[]⟩, .string ⟨#[]⟩] 24) := ⟨_, rfl⟩
  rw [← hw0] at Z0 ⊢
  clear hw0
  go_wp2_with fail
  refine (HTP.out _).mono ?_
  rintro e wq ⟨rfl, b⟩
  obtain rfl := b
  go_wp2_with fail
  refine (HIA.out _).mono ?_
  rintro e w1 ⟨rfl, b⟩
  have Z1 := Lib.hid (Z0.out.to b)
  clear b Z0
  go_wp2_with fail
  refine (HOF.out _ (HS.out.below Z1.out.below)).mono ?_
  rintro e w2 ⟨⟨bd, od, cd, Ld, rfl, h⟩, b⟩
  have Wd := Lib.hid h
  clear h
  have Z2 := Lib.hid (Z1.out.to b)
  clear b Z1
  go_upto_region 6 with fail
  have Z_ := Lib.hid (Z2.out.more (.cells #[.bool bd, .slice od Ld.length cd] 43))
  have VD_ := Lib.hid (Vx.new Z2.out Wd.out.wh)
  have GD := Lib.hid (show w.heap.size + 1 ≤ w2.heap.size from by have := Z2.out.res.lt.2; omega)
  have ALdd := Lib.hid (Wd.out.wh.old (Nat.le_refl _))
  obtain ⟨gd, hgd⟩ : ∃ g, g = w2.heap.size := ⟨_, rfl⟩
  obtain ⟨V1, hV1⟩ : ∃ V, V = w2.alloc (.cells #[.bool bd, .slice od Ld.length cd] 43) := ⟨_, rfl⟩
  rw [← hgd] at VD_ GD ALdd
  rw [← hV1] at Z_ VD_ ⊢
  (try rw [← hgd])
  clear hgd hV1 Wd Z2
  have Z3 := Z_
  have VD3 := VD_
  clear Z_ VD_
  go_upto_region 7 with fail
  refine Batch.wp_region_det (S := fun W => W = V1.drew) (by kernel_rfl) rfl ?_
  refine' Batch.det_take 0 (v := ?v1) ?hi1 (by kernel_rfl) (by kernel_rfl) (by kernel_rfl) (Batch.Does.val ?hw1 ?hv1) ?rest1
  case hi1 => (simp only [List.getElem?_toArray, List.getElem?_cons_zero]; rfl)
  case hw1 => rfl
  case hv1 => (intro wx hSw; go_simp; (try with_reducible rfl))
  (try simp only [Act.put, List.setIfInBounds_toArray, List.set_cons_zero, List.set_cons_succ])
  refine' Batch.det_take 1 (v := ?v2) ?hi2 (by kernel_rfl) (by kernel_rfl) (by kernel_rfl) (Batch.Does.val ?hw2 ?hv2) ?rest2
  case hi2 => (simp only [List.getElem?_toArray, List.getElem?_cons_succ, List.getElem?_cons_zero]; rfl)
  case hw2 => rfl
  case hv2 => (intro wx hSw; go_simp; (try with_reducible rfl))
  (try simp only [Act.put, List.setIfInBounds_toArray, List.set_cons_zero, List.set_cons_succ])
  refine' Batch.det_take 2 (v := ?v3) ?hi3 (by kernel_rfl) (by kernel_rfl) (by kernel_rfl) (Batch.Does.val ?hw3 ?hv3) ?rest3
  case hi3 => (simp only [List.getElem?_toArray, List.getElem?_cons_succ, List.getElem?_cons_zero]; rfl)
  case hw3 => rfl
  case hv3 => (intro wx hSw; go_simp; (try with_reducible rfl))
  (try simp only [Act.put, List.setIfInBounds_toArray, List.set_cons_zero, List.set_cons_succ])
  refine' Batch.det_take 3 (v := ?v4) ?hi4 (by kernel_rfl) (by kernel_rfl) (by kernel_rfl) (Batch.Does.val ?hw4 ?hv4) ?rest4
  case hi4 => (simp only [List.getElem?_toArray, List.getElem?_cons_succ, List.getElem?_cons_zero]; rfl)
  case hw4 => rfl
  case hv4 => (intro wx hSw; go_simp; (try with_reducible rfl))
  (try simp only [Act.put, List.setIfInBounds_toArray, List.set_cons_zero, List.set_cons_succ])
  refine' Batch.det_take 4 (v := ?v5) ?hi5 (by kernel_rfl) (by kernel_rfl) (by kernel_rfl) (Batch.Does.val ?hw5 ?hv5) ?rest5
  case hi5 => (simp only [List.getElem?_toArray, List.getElem?_cons_succ, List.getElem?_cons_zero]; rfl)
  case hw5 => rfl
  case hv5 => (intro wx hSw; go_simp; (try with_reducible rfl))
  (try simp only [Act.put, List.setIfInBounds_toArray, List.set_cons_zero, List.set_cons_succ])
  refine' Batch.det_take 5 (v := ?v6) ?hi6 (by kernel_rfl) (by kernel_rfl) (by kernel_rfl) (Batch.Does.val ?hw6 ?hv6) ?rest6
  case hi6 => (simp only [List.getElem?_toArray, List.getElem?_cons_succ, List.getElem?_cons_zero]; rfl)
  case hw6 => rfl
  case hv6 => (intro wx hSw; go_simp; (try with_reducible rfl))
  (try simp only [Act.put, List.setIfInBounds_toArray, List.set_cons_zero, List.set_cons_succ])
  refine' Batch.det_take 6 (v := ?v7) ?hi7 (by kernel_rfl) (by kernel_rfl) (by kernel_rfl) (Batch.Does.val ?hw7 ?hv7) ?rest7
  case hi7 => (simp only [List.getElem?_toArray, List.getElem?_cons_succ, List.getElem?_cons_zero]; rfl)
  case hw7 => rfl
  case hv7 => (intro wx hSw; go_simp; (try with_reducible rfl))
  (try simp only [Act.put, List.setIfInBounds_toArray, List.set_cons_zero, List.set_cons_succ])
  refine' Batch.det_take 7 (v := ?v8) ?hi8 (by kernel_rfl) (by kernel_rfl) (by kernel_rfl) (Batch.Does.val ?hw8 ?hv8) ?rest8
  case hi8 => (simp only [List.getElem?_toArray, List.getElem?_cons_succ, List.getElem?_cons_zero]; rfl)
  case hw8 => rfl
  case hv8 => (intro wx hSw; go_simp; (try with_reducible rfl))
  (try simp only [Act.put, List.setIfInBounds_toArray, List.set_cons_zero, List.set_cons_succ])
  refine' Batch.det_take 8 (v := ?v9) ?hi9 (by kernel_rfl) (by kernel_rfl) (by kernel_rfl) (Batch.Does.val ?hw9 ?hv9) ?rest9
  case hi9 => (simp only [List.getElem?_toArray, List.getElem?_cons_succ, List.getElem?_cons_zero]; rfl)
  case hw9 => rfl
  case hv9 => (intro wx hSw; go_simp; (try with_reducible rfl))
  (try simp only [Act.put, List.setIfInBounds_toArray, List.set_cons_zero, List.set_cons_succ])
  refine Batch.det_done (by kernel_rfl) (fun v1_ hS => ?_) _
  have hdr : Below V1.heap.size V1 v1_ := by rw [hS]; exact Below.drew (Below.refl _ _)
  clear hS
  have Z4 := Lib.hid (Z3.out.to hdr)
  have VD4 := Lib.hid (VD3.out.to hdr)
  clear hdr Z3 VD3
  go_wp2_with fail
  refine (HD1.out _).mono ?_
  rintro e wq ⟨rfl, b⟩
  obtain rfl := b
  obtain ⟨y0, y1, y2, y3, y4, y5, y6⟩ := Z4.out.res.stores (.string ⟨#[]⟩) (.string ⟨#[]⟩)
  have HBE := Lib.hid ((Z4.out.below.setCell (p := ⟨w.heap.size, 0, none⟩) (Nat.le_refl _) (.string ⟨#[]⟩)).setCell (p := ⟨w.heap.size, 1, none⟩) (Nat.le_refl _) (.string ⟨#[]⟩))
  go_wp2_with fail
  (try simp only [Exit.inBlock, Exit.then])
  refine bodyPost_ret (v := .tuple #[ratV ⟨#[]⟩ ⟨#[]⟩, .int .i64 15]) ?_ rfl ⟨rfl, HBE.out⟩
  rw [results_cell_tmp rfl]
  go_simp
set_option maxHeartbeats 6400000 in
set_option maxRecDepth 100000 in
theorem prR_slash_bad2 (s t f r : ByteArray) (k : Nat) (w : World) (hs0 : Std w) (q0 : ¬ (400 : Int) < s.size) (hk : k < t.size) (hb : t.size ≤ 1000) (hf : t.extract 0 k = f) (hr : t.extract (k + 1) t.size = r)
    (HTP : ∀ wx, Calls Tryz.prog 18 #[.string s, .string ⟨#[45]⟩] wx fun e w' => e = .returned (.string t) ∧ wx = w')
    (HIA : ∀ wx, Calls Tryz.prog 88 #[.string t, .string ⟨#[47, 46]⟩] wx fun e w' => e = .returned (.int .i64 (k : Int)) ∧ Below wx.heap.size wx w')
    (HOF : ∀ wx, Std wx → Calls Tryz.prog 60 #[.int .i64 1] wx fun e w' => (∃ (b : Bool) (o : Option Addr) (c : Nat) (L : List Nat), e = .returned (whV b o c L) ∧ Wf wx.heap.size w' b o c L (1)) ∧ Below wx.heap.size wx w')
    (HD1 : ∀ wx, Calls Tryz.prog 89 #[.string f] wx fun e w' => e = .returned (.bool true) ∧ wx = w')
    (HD2 : ∀ wx, Calls Tryz.prog 89 #[.string r] wx fun e w' => e = .returned (.bool false) ∧ wx = w') :
    Calls Tryz.prog 31 #[.string s] w fun e w' => e = .returned (.tuple #[ratV ⟨#[]⟩ ⟨#[]⟩, .int .i64 15]) ∧ Below w.heap.size w w' := by
  have p0 : (0 : Int) ≤ k := by omega
  have p1 : (k : Int) ≤ t.size := by omega
  have hwr : IntKind.i64.wrap ((k : Int) + 1) = (k : Int) + 1 := wrap_small _ (by omega) (by omega)
  have p2 : (0 : Int) ≤ (k : Int) + 1 := by omega
  have p3 : (k : Int) + 1 ≤ t.size := by omega
  have p4 : (k : Int) < t.size := by omega
  clear hb
  have HTP_ := Lib.hid HTP
  clear HTP
  have HTP := HTP_
  clear HTP_
  have HIA_ := Lib.hid HIA
  clear HIA
  have HIA := HIA_
  clear HIA_
  have HOF_ := Lib.hid HOF
  clear HOF
  have HOF := HOF_
  clear HOF_
  have HD1_ := Lib.hid HD1
  clear HD1
  have HD1 := HD1_
  clear HD1_
  have HD2_ := Lib.hid HD2
  clear HD2
  have HD2 := HD2_
  clear HD2_
  have HS := Lib.hid hs0
  clear hs0
  go_enter Tryz.func31, Tryz.ntmps31
  go_upto_region 1 with fail
  have Z0 := Lib.hid (Bz.new w)
  obtain ⟨w0, hw0⟩ : ∃ w0, w0 = w.alloc (.cells #[.string ⟨#[]⟩, .string ⟨#[]⟩] 24) := ⟨_, rfl⟩
  rw [← hw0] at Z0 ⊢
  clear hw0
  go_wp2_with fail
  refine (HTP.out _).mono ?_
  rintro e wq ⟨rfl, b⟩
  obtain rfl := b
  go_wp2_with fail
  refine (HIA.out _).mono ?_
  rintro e w1 ⟨rfl, b⟩
  have Z1 := Lib.hid (Z0.out.to b)
  clear b Z0
  go_wp2_with fail
  refine (HOF.out _ (HS.out.below Z1.out.below)).mono ?_
  rintro e w2 ⟨⟨bd, od, cd, Ld, rfl, h⟩, b⟩
  have Wd := Lib.hid h
  clear h
  have Z2 := Lib.hid (Z1.out.to b)
  clear b Z1
  go_upto_region 6 with fail
  have Z_ := Lib.hid (Z2.out.more (.cells #[.bool bd, .slice od Ld.length cd] 43))
  have VD_ := Lib.hid (Vx.new Z2.out Wd.out.wh)
  have GD := Lib.hid (show w.heap.size + 1 ≤ w2.heap.size from by have := Z2.out.res.lt.2; omega)
  have ALdd := Lib.hid (Wd.out.wh.old (Nat.le_refl _))
  obtain ⟨gd, hgd⟩ : ∃ g, g = w2.heap.size := ⟨_, rfl⟩
  obtain ⟨V1, hV1⟩ : ∃ V, V = w2.alloc (.cells #[.bool bd, .slice od Ld.length cd] 43) := ⟨_, rfl⟩
  rw [← hgd] at VD_ GD ALdd
  rw [← hV1] at Z_ VD_ ⊢
  (try rw [← hgd])
  clear hgd hV1 Wd Z2
  have Z3 := Z_
  have VD3 := VD_
  clear Z_ VD_
  go_upto_region 7 with fail
  refine Batch.wp_region_det (S := fun W => W = V1.drew) (by kernel_rfl) rfl ?_
  refine' Batch.det_take 0 (v := ?v10) ?hi10 (by kernel_rfl) (by kernel_rfl) (by kernel_rfl) (Batch.Does.val ?hw10 ?hv10) ?rest10
  case hi10 => (simp only [List.getElem?_toArray, List.getElem?_cons_zero]; rfl)
  case hw10 => rfl
  case hv10 => (intro wx hSw; go_simp; (try with_reducible rfl))
  (try simp only [Act.put, List.setIfInBounds_toArray, List.set_cons_zero, List.set_cons_succ])
  refine' Batch.det_take 1 (v := ?v11) ?hi11 (by kernel_rfl) (by kernel_rfl) (by kernel_rfl) (Batch.Does.val ?hw11 ?hv11) ?rest11
  case hi11 => (simp only [List.getElem?_toArray, List.getElem?_cons_succ, List.getElem?_cons_zero]; rfl)
  case hw11 => rfl
  case hv11 => (intro wx hSw; go_simp; (try with_reducible rfl))
  (try simp only [Act.put, List.setIfInBounds_toArray, List.set_cons_zero, List.set_cons_succ])
  refine' Batch.det_take 2 (v := ?v12) ?hi12 (by kernel_rfl) (by kernel_rfl) (by kernel_rfl) (Batch.Does.val ?hw12 ?hv12) ?rest12
  case hi12 => (simp only [List.getElem?_toArray, List.getElem?_cons_succ, List.getElem?_cons_zero]; rfl)
  case hw12 => rfl
  case hv12 => (intro wx hSw; go_simp; (try with_reducible rfl))
  (try simp only [Act.put, List.setIfInBounds_toArray, List.set_cons_zero, List.set_cons_succ])
  refine' Batch.det_take 3 (v := ?v13) ?hi13 (by kernel_rfl) (by kernel_rfl) (by kernel_rfl) (Batch.Does.val ?hw13 ?hv13) ?rest13
  case hi13 => (simp only [List.getElem?_toArray, List.getElem?_cons_succ, List.getElem?_cons_zero]; rfl)
  case hw13 => rfl
  case hv13 => (intro wx hSw; go_simp; (try with_reducible rfl))
  (try simp only [Act.put, List.setIfInBounds_toArray, List.set_cons_zero, List.set_cons_succ])
  refine' Batch.det_take 4 (v := ?v14) ?hi14 (by kernel_rfl) (by kernel_rfl) (by kernel_rfl) (Batch.Does.val ?hw14 ?hv14) ?rest14
  case hi14 => (simp only [List.getElem?_toArray, List.getElem?_cons_succ, List.getElem?_cons_zero]; rfl)
  case hw14 => rfl
  case hv14 => (intro wx hSw; go_simp; (try with_reducible rfl))
  (try simp only [Act.put, List.setIfInBounds_toArray, List.set_cons_zero, List.set_cons_succ])
  refine' Batch.det_take 5 (v := ?v15) ?hi15 (by kernel_rfl) (by kernel_rfl) (by kernel_rfl) (Batch.Does.val ?hw15 ?hv15) ?rest15
  case hi15 => (simp only [List.getElem?_toArray, List.getElem?_cons_succ, List.getElem?_cons_zero]; rfl)
  case hw15 => rfl
  case hv15 => (intro wx hSw; go_simp; (try with_reducible rfl))
  (try simp only [Act.put, List.setIfInBounds_toArray, List.set_cons_zero, List.set_cons_succ])
  refine' Batch.det_take 6 (v := ?v16) ?hi16 (by kernel_rfl) (by kernel_rfl) (by kernel_rfl) (Batch.Does.val ?hw16 ?hv16) ?rest16
  case hi16 => (simp only [List.getElem?_toArray, List.getElem?_cons_succ, List.getElem?_cons_zero]; rfl)
  case hw16 => rfl
  case hv16 => (intro wx hSw; go_simp; (try with_reducible rfl))
  (try simp only [Act.put, List.setIfInBounds_toArray, List.set_cons_zero, List.set_cons_succ])
  refine' Batch.det_take 7 (v := ?v17) ?hi17 (by kernel_rfl) (by kernel_rfl) (by kernel_rfl) (Batch.Does.val ?hw17 ?hv17) ?rest17
  case hi17 => (simp only [List.getElem?_toArray, List.getElem?_cons_succ, List.getElem?_cons_zero]; rfl)
  case hw17 => rfl
  case hv17 => (intro wx hSw; go_simp; (try with_reducible rfl))
  (try simp only [Act.put, List.setIfInBounds_toArray, List.set_cons_zero, List.set_cons_succ])
  refine' Batch.det_take 8 (v := ?v18) ?hi18 (by kernel_rfl) (by kernel_rfl) (by kernel_rfl) (Batch.Does.val ?hw18 ?hv18) ?rest18
  case hi18 => (simp only [List.getElem?_toArray, List.getElem?_cons_succ, List.getElem?_cons_zero]; rfl)
  case hw18 => rfl
  case hv18 => (intro wx hSw; go_simp; (try with_reducible rfl))
  (try simp only [Act.put, List.setIfInBounds_toArray, List.set_cons_zero, List.set_cons_succ])
  refine Batch.det_done (by kernel_rfl) (fun v1_ hS => ?_) _
  have hdr : Below V1.heap.size V1 v1_ := by rw [hS]; exact Below.drew (Below.refl _ _)
  clear hS
  have Z4 := Lib.hid (Z3.out.to hdr)
  have VD4 := Lib.hid (VD3.out.to hdr)
  clear hdr Z3 VD3
  go_wp2_with fail
  refine (HD1.out _).mono ?_
  rintro e wq ⟨rfl, b⟩
  obtain rfl := b
  go_wp2_with fail
  refine (HD2.out _).mono ?_
  rintro e wq ⟨rfl, b⟩
  obtain rfl := b
  obtain ⟨y0, y1, y2, y3, y4, y5, y6⟩ := Z4.out.res.stores (.string ⟨#[]⟩) (.string ⟨#[]⟩)
  have HBE := Lib.hid ((Z4.out.below.setCell (p := ⟨w.heap.size, 0, none⟩) (Nat.le_refl _) (.string ⟨#[]⟩)).setCell (p := ⟨w.heap.size, 1, none⟩) (Nat.le_refl _) (.string ⟨#[]⟩))
  go_wp2_with fail
  (try simp only [Exit.inBlock, Exit.then])
  refine bodyPost_ret (v := .tuple #[ratV ⟨#[]⟩ ⟨#[]⟩, .int .i64 15]) ?_ rfl ⟨rfl, HBE.out⟩
  rw [results_cell_tmp rfl]
  go_simp
set_option maxHeartbeats 6400000 in
set_option maxRecDepth 100000 in
theorem prR_slash_zero (s t f r : ByteArray) (k : Nat) (zf zr : Int) (w : World) (hs0 : Std w) (q0 : ¬ (400 : Int) < s.size) (hk : k < t.size) (hb : t.size ≤ 1000) (hf : t.extract 0 k = f) (hr : t.extract (k + 1) t.size = r) (y47 : (((t[k]'hk).toNat : Int) == 47) = true) (y46 : (((t[k]'hk).toNat : Int) == 46) = false) (hz : (sgnI zr == 0) = true)
    (HTP : ∀ wx, Calls Tryz.prog 18 #[.string s, .string ⟨#[45]⟩] wx fun e w' => e = .returned (.string t) ∧ wx = w')
    (HIA : ∀ wx, Calls Tryz.prog 88 #[.string t, .string ⟨#[47, 46]⟩] wx fun e w' => e = .returned (.int .i64 (k : Int)) ∧ Below wx.heap.size wx w')
    (HOF : ∀ wx, Std wx → Calls Tryz.prog 60 #[.int .i64 1] wx fun e w' => (∃ (b : Bool) (o : Option Addr) (c : Nat) (L : List Nat), e = .returned (whV b o c L) ∧ Wf wx.heap.size w' b o c L (1)) ∧ Below wx.heap.size wx w')
    (HD1 : ∀ wx, Calls Tryz.prog 89 #[.string f] wx fun e w' => e = .returned (.bool true) ∧ wx = w')
    (HD2 : ∀ wx, Calls Tryz.prog 89 #[.string r] wx fun e w' => e = .returned (.bool true) ∧ wx = w')
    (HNF : ∀ wx, Calls Tryz.prog 90 #[.string f] wx fun e w' => (∃ (b : Bool) (o : Option Addr) (c : Nat) (L : List Nat), e = .returned (whV b o c L) ∧ Wf wx.heap.size w' b o c L (zf)) ∧ Below wx.heap.size wx w')
    (HNR : ∀ wx, Calls Tryz.prog 90 #[.string r] wx fun e w' => (∃ (b : Bool) (o : Option Addr) (c : Nat) (L : List Nat), e = .returned (whV b o c L) ∧ Wf wx.heap.size w' b o c L (zr)) ∧ Below wx.heap.size wx w') :
    Calls Tryz.prog 31 #[.string s] w fun e w' => e = .returned (.tuple #[ratV ⟨#[]⟩ ⟨#[]⟩, .int .i64 17]) ∧ Below w.heap.size w w' := by
  have p0 : (0 : Int) ≤ k := by omega
  have p1 : (k : Int) ≤ t.size := by omega
  have hwr : IntKind.i64.wrap ((k : Int) + 1) = (k : Int) + 1 := wrap_small _ (by omega) (by omega)
  have p2 : (0 : Int) ≤ (k : Int) + 1 := by omega
  have p3 : (k : Int) + 1 ≤ t.size := by omega
  have p4 : (k : Int) < t.size := by omega
  clear hb
  have HTP_ := Lib.hid HTP
  clear HTP
  have HTP := HTP_
  clear HTP_
  have HIA_ := Lib.hid HIA
  clear HIA
  have HIA := HIA_
  clear HIA_
  have HOF_ := Lib.hid HOF
  clear HOF
  have HOF := HOF_
  clear HOF_
  have HD1_ := Lib.hid HD1
  clear HD1
  have HD1 := HD1_
  clear HD1_
  have HD2_ := Lib.hid HD2
  clear HD2
  have HD2 := HD2_
  clear HD2_
  have HNF_ := Lib.hid HNF
  clear HNF
  have HNF := HNF_
  clear HNF_
  have HNR_ := Lib.hid HNR
  clear HNR
  have HNR := HNR_
  clear HNR_
  have HS := Lib.hid hs0
  clear hs0
  go_enter Tryz.func31, Tryz.ntmps31
  go_upto_region 1 with fail
  have Z0 := Lib.hid (Bz.new w)
  obtain ⟨w0, hw0⟩ : ∃ w0, w0 = w.alloc (.cells #[.string ⟨#[]⟩, .string ⟨#[]⟩] 24) := ⟨_, rfl⟩
  rw [← hw0] at Z0 ⊢
  clear hw0
  go_wp2_with fail
  refine (HTP.out _).mono ?_
  rintro e wq ⟨rfl, b⟩
  obtain rfl := b
  go_wp2_with fail
  refine (HIA.out _).mono ?_
  rintro e w1 ⟨rfl, b⟩
  have Z1 := Lib.hid (Z0.out.to b)
  clear b Z0
  go_wp2_with fail
  refine (HOF.out _ (HS.out.below Z1.out.below)).mono ?_
  rintro e w2 ⟨⟨bd, od, cd, Ld, rfl, h⟩, b⟩
  have Wd := Lib.hid h
  clear h
  have Z2 := Lib.hid (Z1.out.to b)
  clear b Z1
  go_upto_region 6 with fail
  have Z_ := Lib.hid (Z2.out.more (.cells #[.bool bd, .slice od Ld.length cd] 43))
  have VD_ := Lib.hid (Vx.new Z2.out Wd.out.wh)
  have GD := Lib.hid (show w.heap.size + 1 ≤ w2.heap.size from by have := Z2.out.res.lt.2; omega)
  have ALdd := Lib.hid (Wd.out.wh.old (Nat.le_refl _))
  obtain ⟨gd, hgd⟩ : ∃ g, g = w2.heap.size := ⟨_, rfl⟩
  obtain ⟨V1, hV1⟩ : ∃ V, V = w2.alloc (.cells #[.bool bd, .slice od Ld.length cd] 43) := ⟨_, rfl⟩
  rw [← hgd] at VD_ GD ALdd
  rw [← hV1] at Z_ VD_ ⊢
  (try rw [← hgd])
  clear hgd hV1 Wd Z2
  have Z3 := Z_
  have VD3 := VD_
  clear Z_ VD_
  go_upto_region 7 with fail
  refine Batch.wp_region_det (S := fun W => W = V1.drew) (by kernel_rfl) rfl ?_
  refine' Batch.det_take 0 (v := ?v19) ?hi19 (by kernel_rfl) (by kernel_rfl) (by kernel_rfl) (Batch.Does.val ?hw19 ?hv19) ?rest19
  case hi19 => (simp only [List.getElem?_toArray, List.getElem?_cons_zero]; rfl)
  case hw19 => rfl
  case hv19 => (intro wx hSw; go_simp; (try with_reducible rfl))
  (try simp only [Act.put, List.setIfInBounds_toArray, List.set_cons_zero, List.set_cons_succ])
  refine' Batch.det_take 1 (v := ?v20) ?hi20 (by kernel_rfl) (by kernel_rfl) (by kernel_rfl) (Batch.Does.val ?hw20 ?hv20) ?rest20
  case hi20 => (simp only [List.getElem?_toArray, List.getElem?_cons_succ, List.getElem?_cons_zero]; rfl)
  case hw20 => rfl
  case hv20 => (intro wx hSw; go_simp; (try with_reducible rfl))
  (try simp only [Act.put, List.setIfInBounds_toArray, List.set_cons_zero, List.set_cons_succ])
  refine' Batch.det_take 2 (v := ?v21) ?hi21 (by kernel_rfl) (by kernel_rfl) (by kernel_rfl) (Batch.Does.val ?hw21 ?hv21) ?rest21
  case hi21 => (simp only [List.getElem?_toArray, List.getElem?_cons_succ, List.getElem?_cons_zero]; rfl)
  case hw21 => rfl
  case hv21 => (intro wx hSw; go_simp; (try with_reducible rfl))
  (try simp only [Act.put, List.setIfInBounds_toArray, List.set_cons_zero, List.set_cons_succ])
  refine' Batch.det_take 3 (v := ?v22) ?hi22 (by kernel_rfl) (by kernel_rfl) (by kernel_rfl) (Batch.Does.val ?hw22 ?hv22) ?rest22
  case hi22 => (simp only [List.getElem?_toArray, List.getElem?_cons_succ, List.getElem?_cons_zero]; rfl)
  case hw22 => rfl
  case hv22 => (intro wx hSw; go_simp; (try with_reducible rfl))
  (try simp only [Act.put, List.setIfInBounds_toArray, List.set_cons_zero, List.set_cons_succ])
  refine' Batch.det_take 4 (v := ?v23) ?hi23 (by kernel_rfl) (by kernel_rfl) (by kernel_rfl) (Batch.Does.val ?hw23 ?hv23) ?rest23
  case hi23 => (simp only [List.getElem?_toArray, List.getElem?_cons_succ, List.getElem?_cons_zero]; rfl)
  case hw23 => rfl
  case hv23 => (intro wx hSw; go_simp; (try with_reducible rfl))
  (try simp only [Act.put, List.setIfInBounds_toArray, List.set_cons_zero, List.set_cons_succ])
  refine' Batch.det_take 5 (v := ?v24) ?hi24 (by kernel_rfl) (by kernel_rfl) (by kernel_rfl) (Batch.Does.val ?hw24 ?hv24) ?rest24
  case hi24 => (simp only [List.getElem?_toArray, List.getElem?_cons_succ, List.getElem?_cons_zero]; rfl)
  case hw24 => rfl
  case hv24 => (intro wx hSw; go_simp; (try with_reducible rfl))
  (try simp only [Act.put, List.setIfInBounds_toArray, List.set_cons_zero, List.set_cons_succ])
  refine' Batch.det_take 6 (v := ?v25) ?hi25 (by kernel_rfl) (by kernel_rfl) (by kernel_rfl) (Batch.Does.val ?hw25 ?hv25) ?rest25
  case hi25 => (simp only [List.getElem?_toArray, List.getElem?_cons_succ, List.getElem?_cons_zero]; rfl)
  case hw25 => rfl
  case hv25 => (intro wx hSw; go_simp; (try with_reducible rfl))
  (try simp only [Act.put, List.setIfInBounds_toArray, List.set_cons_zero, List.set_cons_succ])
  refine' Batch.det_take 7 (v := ?v26) ?hi26 (by kernel_rfl) (by kernel_rfl) (by kernel_rfl) (Batch.Does.val ?hw26 ?hv26) ?rest26
  case hi26 => (simp only [List.getElem?_toArray, List.getElem?_cons_succ, List.getElem?_cons_zero]; rfl)
  case hw26 => rfl
  case hv26 => (intro wx hSw; go_simp; (try with_reducible rfl))
  (try simp only [Act.put, List.setIfInBounds_toArray, List.set_cons_zero, List.set_cons_succ])
  refine' Batch.det_take 8 (v := ?v27) ?hi27 (by kernel_rfl) (by kernel_rfl) (by kernel_rfl) (Batch.Does.val ?hw27 ?hv27) ?rest27
  case hi27 => (simp only [List.getElem?_toArray, List.getElem?_cons_succ, List.getElem?_cons_zero]; rfl)
  case hw27 => rfl
  case hv27 => (intro wx hSw; go_simp; (try with_reducible rfl))
  (try simp only [Act.put, List.setIfInBounds_toArray, List.set_cons_zero, List.set_cons_succ])
  refine Batch.det_done (by kernel_rfl) (fun v1_ hS => ?_) _
  have hdr : Below V1.heap.size V1 v1_ := by rw [hS]; exact Below.drew (Below.refl _ _)
  clear hS
  have Z4 := Lib.hid (Z3.out.to hdr)
  have VD4 := Lib.hid (VD3.out.to hdr)
  clear hdr Z3 VD3
  go_wp2_with fail
  refine (HD1.out _).mono ?_
  rintro e wq ⟨rfl, b⟩
  obtain rfl := b
  go_wp2_with fail
  refine (HD2.out _).mono ?_
  rintro e wq ⟨rfl, b⟩
  obtain rfl := b
  go_wp2_with fail
  refine (HNF.out _).mono ?_
  rintro e w5 ⟨⟨bn, on, cn, Ln, rfl, h⟩, b⟩
  have Wn := Lib.hid h
  clear h
  have ALnd := Lib.hid (Wn.out.fresh VD4.out.box.lt.2)
  have Z5 := Lib.hid (Z4.out.to b)
  have VD5 := Lib.hid (VD4.out.to b)
  clear b Z4 VD4
  go_upto_region 11 with fail
  have Z_ := Lib.hid (Z5.out.more (.cells #[.bool bn, .slice on Ln.length cn] 43))
  have VD_ := Lib.hid (VD5.out.more (.cells #[.bool bn, .slice on Ln.length cn] 43))
  have VN_ := Lib.hid (Vx.new Z5.out Wn.out.wh)
  have GN := Lib.hid (show w.heap.size + 1 ≤ w5.heap.size from by have := Z5.out.res.lt.2; omega)
  have NE := Lib.hid (show gd ≠ w5.heap.size from by have := VD5.out.box.lt.2; omega)
  have ALnn := Lib.hid (Wn.out.wh.old (Nat.le_refl _))
  have ALdn := Lib.hid (VD5.out.wh.old (Nat.le_refl _))
  obtain ⟨gn, hgn⟩ : ∃ g, g = w5.heap.size := ⟨_, rfl⟩
  obtain ⟨V2, hV2⟩ : ∃ V, V = w5.alloc (.cells #[.bool bn, .slice on Ln.length cn] 43) := ⟨_, rfl⟩
  rw [← hgn] at VN_ GN NE ALnn ALdn
  rw [← hV2] at Z_ VD_ VN_ ⊢
  (try rw [← hgn])
  clear hgn hV2 Wn Z5 VD5
  have Z6 := Z_
  have VD6 := VD_
  have VN6 := VN_
  clear Z_ VD_ VN_
  go_wp2_with fail
  refine (HNR.out _).mono ?_
  rintro e w7 ⟨⟨br, or, cr, Lr, rfl, h⟩, b⟩
  have Wr := Lib.hid h
  clear h
  have ALrd := Lib.hid (Wr.out.fresh VD6.out.box.lt.2)
  have ALrn := Lib.hid (Wr.out.fresh VN6.out.box.lt.2)
  have Z7 := Lib.hid (Z6.out.to b)
  have VD7 := Lib.hid (VD6.out.to b)
  have VN7 := Lib.hid (VN6.out.to b)
  clear b Z6 VD6 VN6
  obtain ⟨y0, y1, y2, y3, y4, y5, y6⟩ := VD7.out.box.stores (.bool br) (.slice or Lr.length cr)
  go_upto_region 13 with fail
  clear y0 y1 y2 y3 y4 y5 y6
  have Z8 := Lib.hid (Z7.out.far GD.out (.bool br) (.slice or Lr.length cr))
  have VD8 := Lib.hid (VD7.out.put Wr.out.wh ALrd.out)
  have VN8 := Lib.hid (VN7.out.far (gx := gd) (NE.out.symm) (.bool br) (.slice or Lr.length cr) ALnd.out)
  clear Z7 VD7 VN7
  obtain ⟨V8_, hV_⟩ : ∃ V, V = ((w7.setCell ⟨gd, 0, none⟩ (.bool br)).setCell ⟨gd, 1, none⟩ (.slice or Lr.length cr)) := ⟨_, rfl⟩
  rw [← hV_] at Z8 VD8 VN8 ⊢
  clear hV_
  obtain ⟨d0, d1⟩ := And.intro VD8.out.box.c0 VD8.out.box.c1
  go_wp2_with fail
  refine (signWY_any br or cr Lr zr _ VD8.out.wh).mono ?_
  rintro e w9 ⟨rfl, b⟩
  clear d0 d1
  have Z9 := Lib.hid (Z8.out.to b)
  have VD9 := Lib.hid (VD8.out.to b)
  have VN9 := Lib.hid (VN8.out.to b)
  clear b Z8 VD8 VN8
  obtain ⟨y0, y1, y2, y3, y4, y5, y6⟩ := Z9.out.res.stores (.string ⟨#[]⟩) (.string ⟨#[]⟩)
  have HBE := Lib.hid ((Z9.out.below.setCell (p := ⟨w.heap.size, 0, none⟩) (Nat.le_refl _) (.string ⟨#[]⟩)).setCell (p := ⟨w.heap.size, 1, none⟩) (Nat.le_refl _) (.string ⟨#[]⟩))
  go_wp2_with fail
  (try simp only [Exit.inBlock, Exit.then])
  refine bodyPost_ret (v := .tuple #[ratV ⟨#[]⟩ ⟨#[]⟩, .int .i64 17]) ?_ rfl ⟨rfl, HBE.out⟩
  rw [results_cell_tmp rfl]
  go_simp
set_option maxHeartbeats 6400000 in
set_option maxRecDepth 100000 in
theorem prR_slash_pos (s t f r pa pb : ByteArray) (k : Nat) (zf zr : Int) (w : World) (hs0 : Std w) (q0 : ¬ (400 : Int) < s.size) (hk : k < t.size) (hb : t.size ≤ 1000) (hf : t.extract 0 k = f) (hr : t.extract (k + 1) t.size = r) (y47 : (((t[k]'hk).toNat : Int) == 47) = true) (y46 : (((t[k]'hk).toNat : Int) == 46) = false) (hz : (sgnI zr == 0) = false) (qn : ¬ (t.size : Int) < s.size)
    (HTP : ∀ wx, Calls Tryz.prog 18 #[.string s, .string ⟨#[45]⟩] wx fun e w' => e = .returned (.string t) ∧ wx = w')
    (HIA : ∀ wx, Calls Tryz.prog 88 #[.string t, .string ⟨#[47, 46]⟩] wx fun e w' => e = .returned (.int .i64 (k : Int)) ∧ Below wx.heap.size wx w')
    (HOF : ∀ wx, Std wx → Calls Tryz.prog 60 #[.int .i64 1] wx fun e w' => (∃ (b : Bool) (o : Option Addr) (c : Nat) (L : List Nat), e = .returned (whV b o c L) ∧ Wf wx.heap.size w' b o c L (1)) ∧ Below wx.heap.size wx w')
    (HD1 : ∀ wx, Calls Tryz.prog 89 #[.string f] wx fun e w' => e = .returned (.bool true) ∧ wx = w')
    (HD2 : ∀ wx, Calls Tryz.prog 89 #[.string r] wx fun e w' => e = .returned (.bool true) ∧ wx = w')
    (HNF : ∀ wx, Calls Tryz.prog 90 #[.string f] wx fun e w' => (∃ (b : Bool) (o : Option Addr) (c : Nat) (L : List Nat), e = .returned (whV b o c L) ∧ Wf wx.heap.size w' b o c L (zf)) ∧ Below wx.heap.size wx w')
    (HNR : ∀ wx, Calls Tryz.prog 90 #[.string r] wx fun e w' => (∃ (b : Bool) (o : Option Addr) (c : Nat) (L : List Nat), e = .returned (whV b o c L) ∧ Wf wx.heap.size w' b o c L (zr)) ∧ Below wx.heap.size wx w')
    (HMK : ∀ b1 o1 c1 L1 b2 o2 c2 L2 wx, Std wx → Wh wx b1 o1 c1 L1 zf → Wh wx b2 o2 c2 L2 zr → Calls Tryz.prog 24 #[whV b1 o1 c1 L1, whV b2 o2 c2 L2] wx fun e w' => e = .returned (ratV pa pb) ∧ Below wx.heap.size wx w') :
    Calls Tryz.prog 31 #[.string s] w fun e w' => e = .returned (.tuple #[ratV pa pb, .int .i64 0]) ∧ Below w.heap.size w w' := by
  have p0 : (0 : Int) ≤ k := by omega
  have p1 : (k : Int) ≤ t.size := by omega
  have hwr : IntKind.i64.wrap ((k : Int) + 1) = (k : Int) + 1 := wrap_small _ (by omega) (by omega)
  have p2 : (0 : Int) ≤ (k : Int) + 1 := by omega
  have p3 : (k : Int) + 1 ≤ t.size := by omega
  have p4 : (k : Int) < t.size := by omega
  clear hb
  have HTP_ := Lib.hid HTP
  clear HTP
  have HTP := HTP_
  clear HTP_
  have HIA_ := Lib.hid HIA
  clear HIA
  have HIA := HIA_
  clear HIA_
  have HOF_ := Lib.hid HOF
  clear HOF
  have HOF := HOF_
  clear HOF_
  have HD1_ := Lib.hid HD1
  clear HD1
  have HD1 := HD1_
  clear HD1_
  have HD2_ := Lib.hid HD2
  clear HD2
  have HD2 := HD2_
  clear HD2_
  have HNF_ := Lib.hid HNF
  clear HNF
  have HNF := HNF_
  clear HNF_
  have HNR_ := Lib.hid HNR
  clear HNR
  have HNR := HNR_
  clear HNR_
  have HMK_ := Lib.hid HMK
  clear HMK
  have HMK := HMK_
  clear HMK_
  have HS := Lib.hid hs0
  clear hs0
  go_enter Tryz.func31, Tryz.ntmps31
  go_upto_region 1 with fail
  have Z0 := Lib.hid (Bz.new w)
  obtain ⟨w0, hw0⟩ : ∃ w0, w0 = w.alloc (.cells #[.string ⟨#[]⟩, .string ⟨#[]⟩] 24) := ⟨_, rfl⟩
  rw [← hw0] at Z0 ⊢
  clear hw0
  go_wp2_with fail
  refine (HTP.out _).mono ?_
  rintro e wq ⟨rfl, b⟩
  obtain rfl := b
  go_wp2_with fail
  refine (HIA.out _).mono ?_
  rintro e w1 ⟨rfl, b⟩
  have Z1 := Lib.hid (Z0.out.to b)
  clear b Z0
  go_wp2_with fail
  refine (HOF.out _ (HS.out.below Z1.out.below)).mono ?_
  rintro e w2 ⟨⟨bd, od, cd, Ld, rfl, h⟩, b⟩
  have Wd := Lib.hid h
  clear h
  have Z2 := Lib.hid (Z1.out.to b)
  clear b Z1
  go_upto_region 6 with fail
  have Z_ := Lib.hid (Z2.out.more (.cells #[.bool bd, .slice od Ld.length cd] 43))
  have VD_ := Lib.hid (Vx.new Z2.out Wd.out.wh)
  have GD := Lib.hid (show w.heap.size + 1 ≤ w2.heap.size from by have := Z2.out.res.lt.2; omega)
  have ALdd := Lib.hid (Wd.out.wh.old (Nat.le_refl _))
  obtain ⟨gd, hgd⟩ : ∃ g, g = w2.heap.size := ⟨_, rfl⟩
  obtain ⟨V1, hV1⟩ : ∃ V, V = w2.alloc (.cells #[.bool bd, .slice od Ld.length cd] 43) := ⟨_, rfl⟩
  rw [← hgd] at VD_ GD ALdd
  rw [← hV1] at Z_ VD_ ⊢
  (try rw [← hgd])
  clear hgd hV1 Wd Z2
  have Z3 := Z_
  have VD3 := VD_
  clear Z_ VD_
  go_upto_region 7 with fail
  refine Batch.wp_region_det (S := fun W => W = V1.drew) (by kernel_rfl) rfl ?_
  refine' Batch.det_take 0 (v := ?v28) ?hi28 (by kernel_rfl) (by kernel_rfl) (by kernel_rfl) (Batch.Does.val ?hw28 ?hv28) ?rest28
  case hi28 => (simp only [List.getElem?_toArray, List.getElem?_cons_zero]; rfl)
  case hw28 => rfl
  case hv28 => (intro wx hSw; go_simp; (try with_reducible rfl))
  (try simp only [Act.put, List.setIfInBounds_toArray, List.set_cons_zero, List.set_cons_succ])
  refine' Batch.det_take 1 (v := ?v29) ?hi29 (by kernel_rfl) (by kernel_rfl) (by kernel_rfl) (Batch.Does.val ?hw29 ?hv29) ?rest29
  case hi29 => (simp only [List.getElem?_toArray, List.getElem?_cons_succ, List.getElem?_cons_zero]; rfl)
  case hw29 => rfl
  case hv29 => (intro wx hSw; go_simp; (try with_reducible rfl))
  (try simp only [Act.put, List.setIfInBounds_toArray, List.set_cons_zero, List.set_cons_succ])
  refine' Batch.det_take 2 (v := ?v30) ?hi30 (by kernel_rfl) (by kernel_rfl) (by kernel_rfl) (Batch.Does.val ?hw30 ?hv30) ?rest30
  case hi30 => (simp only [List.getElem?_toArray, List.getElem?_cons_succ, List.getElem?_cons_zero]; rfl)
  case hw30 => rfl
  case hv30 => (intro wx hSw; go_simp; (try with_reducible rfl))
  (try simp only [Act.put, List.setIfInBounds_toArray, List.set_cons_zero, List.set_cons_succ])
  refine' Batch.det_take 3 (v := ?v31) ?hi31 (by kernel_rfl) (by kernel_rfl) (by kernel_rfl) (Batch.Does.val ?hw31 ?hv31) ?rest31
  case hi31 => (simp only [List.getElem?_toArray, List.getElem?_cons_succ, List.getElem?_cons_zero]; rfl)
  case hw31 => rfl
  case hv31 => (intro wx hSw; go_simp; (try with_reducible rfl))
  (try simp only [Act.put, List.setIfInBounds_toArray, List.set_cons_zero, List.set_cons_succ])
  refine' Batch.det_take 4 (v := ?v32) ?hi32 (by kernel_rfl) (by kernel_rfl) (by kernel_rfl) (Batch.Does.val ?hw32 ?hv32) ?rest32
  case hi32 => (simp only [List.getElem?_toArray, List.getElem?_cons_succ, List.getElem?_cons_zero]; rfl)
  case hw32 => rfl
  case hv32 => (intro wx hSw; go_simp; (try with_reducible rfl))
  (try simp only [Act.put, List.setIfInBounds_toArray, List.set_cons_zero, List.set_cons_succ])
  refine' Batch.det_take 5 (v := ?v33) ?hi33 (by kernel_rfl) (by kernel_rfl) (by kernel_rfl) (Batch.Does.val ?hw33 ?hv33) ?rest33
  case hi33 => (simp only [List.getElem?_toArray, List.getElem?_cons_succ, List.getElem?_cons_zero]; rfl)
  case hw33 => rfl
  case hv33 => (intro wx hSw; go_simp; (try with_reducible rfl))
  (try simp only [Act.put, List.setIfInBounds_toArray, List.set_cons_zero, List.set_cons_succ])
  refine' Batch.det_take 6 (v := ?v34) ?hi34 (by kernel_rfl) (by kernel_rfl) (by kernel_rfl) (Batch.Does.val ?hw34 ?hv34) ?rest34
  case hi34 => (simp only [List.getElem?_toArray, List.getElem?_cons_succ, List.getElem?_cons_zero]; rfl)
  case hw34 => rfl
  case hv34 => (intro wx hSw; go_simp; (try with_reducible rfl))
  (try simp only [Act.put, List.setIfInBounds_toArray, List.set_cons_zero, List.set_cons_succ])
  refine' Batch.det_take 7 (v := ?v35) ?hi35 (by kernel_rfl) (by kernel_rfl) (by kernel_rfl) (Batch.Does.val ?hw35 ?hv35) ?rest35
  case hi35 => (simp only [List.getElem?_toArray, List.getElem?_cons_succ, List.getElem?_cons_zero]; rfl)
  case hw35 => rfl
  case hv35 => (intro wx hSw; go_simp; (try with_reducible rfl))
  (try simp only [Act.put, List.setIfInBounds_toArray, List.set_cons_zero, List.set_cons_succ])
  refine' Batch.det_take 8 (v := ?v36) ?hi36 (by kernel_rfl) (by kernel_rfl) (by kernel_rfl) (Batch.Does.val ?hw36 ?hv36) ?rest36
  case hi36 => (simp only [List.getElem?_toArray, List.getElem?_cons_succ, List.getElem?_cons_zero]; rfl)
  case hw36 => rfl
  case hv36 => (intro wx hSw; go_simp; (try with_reducible rfl))
  (try simp only [Act.put, List.setIfInBounds_toArray, List.set_cons_zero, List.set_cons_succ])
  refine Batch.det_done (by kernel_rfl) (fun v1_ hS => ?_) _
  have hdr : Below V1.heap.size V1 v1_ := by rw [hS]; exact Below.drew (Below.refl _ _)
  clear hS
  have Z4 := Lib.hid (Z3.out.to hdr)
  have VD4 := Lib.hid (VD3.out.to hdr)
  clear hdr Z3 VD3
  go_wp2_with fail
  refine (HD1.out _).mono ?_
  rintro e wq ⟨rfl, b⟩
  obtain rfl := b
  go_wp2_with fail
  refine (HD2.out _).mono ?_
  rintro e wq ⟨rfl, b⟩
  obtain rfl := b
  go_wp2_with fail
  refine (HNF.out _).mono ?_
  rintro e w5 ⟨⟨bn, on, cn, Ln, rfl, h⟩, b⟩
  have Wn := Lib.hid h
  clear h
  have ALnd := Lib.hid (Wn.out.fresh VD4.out.box.lt.2)
  have Z5 := Lib.hid (Z4.out.to b)
  have VD5 := Lib.hid (VD4.out.to b)
  clear b Z4 VD4
  go_upto_region 11 with fail
  have Z_ := Lib.hid (Z5.out.more (.cells #[.bool bn, .slice on Ln.length cn] 43))
  have VD_ := Lib.hid (VD5.out.more (.cells #[.bool bn, .slice on Ln.length cn] 43))
  have VN_ := Lib.hid (Vx.new Z5.out Wn.out.wh)
  have GN := Lib.hid (show w.heap.size + 1 ≤ w5.heap.size from by have := Z5.out.res.lt.2; omega)
  have NE := Lib.hid (show gd ≠ w5.heap.size from by have := VD5.out.box.lt.2; omega)
  have ALnn := Lib.hid (Wn.out.wh.old (Nat.le_refl _))
  have ALdn := Lib.hid (VD5.out.wh.old (Nat.le_refl _))
  obtain ⟨gn, hgn⟩ : ∃ g, g = w5.heap.size := ⟨_, rfl⟩
  obtain ⟨V2, hV2⟩ : ∃ V, V = w5.alloc (.cells #[.bool bn, .slice on Ln.length cn] 43) := ⟨_, rfl⟩
  rw [← hgn] at VN_ GN NE ALnn ALdn
  rw [← hV2] at Z_ VD_ VN_ ⊢
  (try rw [← hgn])
  clear hgn hV2 Wn Z5 VD5
  have Z6 := Z_
  have VD6 := VD_
  have VN6 := VN_
  clear Z_ VD_ VN_
  go_wp2_with fail
  refine (HNR.out _).mono ?_
  rintro e w7 ⟨⟨br, or, cr, Lr, rfl, h⟩, b⟩
  have Wr := Lib.hid h
  clear h
  have ALrd := Lib.hid (Wr.out.fresh VD6.out.box.lt.2)
  have ALrn := Lib.hid (Wr.out.fresh VN6.out.box.lt.2)
  have Z7 := Lib.hid (Z6.out.to b)
  have VD7 := Lib.hid (VD6.out.to b)
  have VN7 := Lib.hid (VN6.out.to b)
  clear b Z6 VD6 VN6
  obtain ⟨y0, y1, y2, y3, y4, y5, y6⟩ := VD7.out.box.stores (.bool br) (.slice or Lr.length cr)
  go_upto_region 13 with fail
  clear y0 y1 y2 y3 y4 y5 y6
  have Z8 := Lib.hid (Z7.out.far GD.out (.bool br) (.slice or Lr.length cr))
  have VD8 := Lib.hid (VD7.out.put Wr.out.wh ALrd.out)
  have VN8 := Lib.hid (VN7.out.far (gx := gd) (NE.out.symm) (.bool br) (.slice or Lr.length cr) ALnd.out)
  clear Z7 VD7 VN7
  obtain ⟨V8_, hV_⟩ : ∃ V, V = ((w7.setCell ⟨gd, 0, none⟩ (.bool br)).setCell ⟨gd, 1, none⟩ (.slice or Lr.length cr)) := ⟨_, rfl⟩
  rw [← hV_] at Z8 VD8 VN8 ⊢
  clear hV_
  obtain ⟨d0, d1⟩ := And.intro VD8.out.box.c0 VD8.out.box.c1
  go_wp2_with fail
  refine (signWY_any br or cr Lr zr _ VD8.out.wh).mono ?_
  rintro e w9 ⟨rfl, b⟩
  clear d0 d1
  have Z9 := Lib.hid (Z8.out.to b)
  have VD9 := Lib.hid (VD8.out.to b)
  have VN9 := Lib.hid (VN8.out.to b)
  clear b Z8 VD8 VN8
  obtain ⟨c0, c1⟩ := And.intro VN9.out.box.c0 VN9.out.box.c1
  obtain ⟨d0, d1⟩ := And.intro VD9.out.box.c0 VD9.out.box.c1
  go_wp2_with fail
  refine (HMK.out bn on cn Ln br or cr Lr _ (HS.out.below Z9.out.below) VN9.out.wh VD9.out.wh).mono ?_
  rintro e wz ⟨rfl, b⟩
  have ZZ := Z9.out.to b
  obtain ⟨y0, y1, y2, y3, y4, y5, y6⟩ := ZZ.res.stores (.string pa) (.string pb)
  have HBE := Lib.hid ((ZZ.below.setCell (p := ⟨w.heap.size, 0, none⟩) (Nat.le_refl _) (.string pa)).setCell (p := ⟨w.heap.size, 1, none⟩) (Nat.le_refl _) (.string pb))
  clear c0 c1 d0 d1 b ZZ
  go_wp2_with fail
  (try simp only [Exit.inBlock, Exit.then])
  refine bodyPost_ret (v := .tuple #[ratV pa pb, .int .i64 0]) ?_ rfl ⟨rfl, HBE.out⟩
  rw [results_cell_tmp rfl]
  go_simp
set_option maxHeartbeats 6400000 in
set_option maxRecDepth 100000 in
theorem prR_slash_neg (s t f r pa pb : ByteArray) (k : Nat) (zf zr : Int) (w : World) (hs0 : Std w) (q0 : ¬ (400 : Int) < s.size) (hk : k < t.size) (hb : t.size ≤ 1000) (hf : t.extract 0 k = f) (hr : t.extract (k + 1) t.size = r) (y47 : (((t[k]'hk).toNat : Int) == 47) = true) (y46 : (((t[k]'hk).toNat : Int) == 46) = false) (hz : (sgnI zr == 0) = false) (qn : (t.size : Int) < s.size)
    (HTP : ∀ wx, Calls Tryz.prog 18 #[.string s, .string ⟨#[45]⟩] wx fun e w' => e = .returned (.string t) ∧ wx = w')
    (HIA : ∀ wx, Calls Tryz.prog 88 #[.string t, .string ⟨#[47, 46]⟩] wx fun e w' => e = .returned (.int .i64 (k : Int)) ∧ Below wx.heap.size wx w')
    (HOF : ∀ wx, Std wx → Calls Tryz.prog 60 #[.int .i64 1] wx fun e w' => (∃ (b : Bool) (o : Option Addr) (c : Nat) (L : List Nat), e = .returned (whV b o c L) ∧ Wf wx.heap.size w' b o c L (1)) ∧ Below wx.heap.size wx w')
    (HD1 : ∀ wx, Calls Tryz.prog 89 #[.string f] wx fun e w' => e = .returned (.bool true) ∧ wx = w')
    (HD2 : ∀ wx, Calls Tryz.prog 89 #[.string r] wx fun e w' => e = .returned (.bool true) ∧ wx = w')
    (HNF : ∀ wx, Calls Tryz.prog 90 #[.string f] wx fun e w' => (∃ (b : Bool) (o : Option Addr) (c : Nat) (L : List Nat), e = .returned (whV b o c L) ∧ Wf wx.heap.size w' b o c L (zf)) ∧ Below wx.heap.size wx w')
    (HNR : ∀ wx, Calls Tryz.prog 90 #[.string r] wx fun e w' => (∃ (b : Bool) (o : Option Addr) (c : Nat) (L : List Nat), e = .returned (whV b o c L) ∧ Wf wx.heap.size w' b o c L (zr)) ∧ Below wx.heap.size wx w')
    (HMK : ∀ b1 o1 c1 L1 b2 o2 c2 L2 wx, Std wx → Wh wx b1 o1 c1 L1 (-zf) → Wh wx b2 o2 c2 L2 zr → Calls Tryz.prog 24 #[whV b1 o1 c1 L1, whV b2 o2 c2 L2] wx fun e w' => e = .returned (ratV pa pb) ∧ Below wx.heap.size wx w') :
    Calls Tryz.prog 31 #[.string s] w fun e w' => e = .returned (.tuple #[ratV pa pb, .int .i64 0]) ∧ Below w.heap.size w w' := by
  have p0 : (0 : Int) ≤ k := by omega
  have p1 : (k : Int) ≤ t.size := by omega
  have hwr : IntKind.i64.wrap ((k : Int) + 1) = (k : Int) + 1 := wrap_small _ (by omega) (by omega)
  have p2 : (0 : Int) ≤ (k : Int) + 1 := by omega
  have p3 : (k : Int) + 1 ≤ t.size := by omega
  have p4 : (k : Int) < t.size := by omega
  clear hb
  have HTP_ := Lib.hid HTP
  clear HTP
  have HTP := HTP_
  clear HTP_
  have HIA_ := Lib.hid HIA
  clear HIA
  have HIA := HIA_
  clear HIA_
  have HOF_ := Lib.hid HOF
  clear HOF
  have HOF := HOF_
  clear HOF_
  have HD1_ := Lib.hid HD1
  clear HD1
  have HD1 := HD1_
  clear HD1_
  have HD2_ := Lib.hid HD2
  clear HD2
  have HD2 := HD2_
  clear HD2_
  have HNF_ := Lib.hid HNF
  clear HNF
  have HNF := HNF_
  clear HNF_
  have HNR_ := Lib.hid HNR
  clear HNR
  have HNR := HNR_
  clear HNR_
  have HMK_ := Lib.hid HMK
  clear HMK
  have HMK := HMK_
  clear HMK_
  have HS := Lib.hid hs0
  clear hs0
  go_enter Tryz.func31, Tryz.ntmps31
  go_upto_region 1 with fail
  have Z0 := Lib.hid (Bz.new w)
  obtain ⟨w0, hw0⟩ : ∃ w0, w0 = w.alloc (.cells #[.string ⟨#[]⟩, .string ⟨#[]⟩] 24) := ⟨_, rfl⟩
  rw [← hw0] at Z0 ⊢
  clear hw0
  go_wp2_with fail
  refine (HTP.out _).mono ?_
  rintro e wq ⟨rfl, b⟩
  obtain rfl := b
  go_wp2_with fail
  refine (HIA.out _).mono ?_
  rintro e w1 ⟨rfl, b⟩
  have Z1 := Lib.hid (Z0.out.to b)
  clear b Z0
  go_wp2_with fail
  refine (HOF.out _ (HS.out.below Z1.out.below)).mono ?_
  rintro e w2 ⟨⟨bd, od, cd, Ld, rfl, h⟩, b⟩
  have Wd := Lib.hid h
  clear h
  have Z2 := Lib.hid (Z1.out.to b)
  clear b Z1
  go_upto_region 6 with fail
  have Z_ := Lib.hid (Z2.out.more (.cells #[.bool bd, .slice od Ld.length cd] 43))
  have VD_ := Lib.hid (Vx.new Z2.out Wd.out.wh)
  have GD := Lib.hid (show w.heap.size + 1 ≤ w2.heap.size from by have := Z2.out.res.lt.2; omega)
  have ALdd := Lib.hid (Wd.out.wh.old (Nat.le_refl _))
  obtain ⟨gd, hgd⟩ : ∃ g, g = w2.heap.size := ⟨_, rfl⟩
  obtain ⟨V1, hV1⟩ : ∃ V, V = w2.alloc (.cells #[.bool bd, .slice od Ld.length cd] 43) := ⟨_, rfl⟩
  rw [← hgd] at VD_ GD ALdd
  rw [← hV1] at Z_ VD_ ⊢
  (try rw [← hgd])
  clear hgd hV1 Wd Z2
  have Z3 := Z_
  have VD3 := VD_
  clear Z_ VD_
  go_upto_region 7 with fail
  refine Batch.wp_region_det (S := fun W => W = V1.drew) (by kernel_rfl) rfl ?_
  refine' Batch.det_take 0 (v := ?v37) ?hi37 (by kernel_rfl) (by kernel_rfl) (by kernel_rfl) (Batch.Does.val ?hw37 ?hv37) ?rest37
  case hi37 => (simp only [List.getElem?_toArray, List.getElem?_cons_zero]; rfl)
  case hw37 => rfl
  case hv37 => (intro wx hSw; go_simp; (try with_reducible rfl))
  (try simp only [Act.put, List.setIfInBounds_toArray, List.set_cons_zero, List.set_cons_succ])
  refine' Batch.det_take 1 (v := ?v38) ?hi38 (by kernel_rfl) (by kernel_rfl) (by kernel_rfl) (Batch.Does.val ?hw38 ?hv38) ?rest38
  case hi38 => (simp only [List.getElem?_toArray, List.getElem?_cons_succ, List.getElem?_cons_zero]; rfl)
  case hw38 => rfl
  case hv38 => (intro wx hSw; go_simp; (try with_reducible rfl))
  (try simp only [Act.put, List.setIfInBounds_toArray, List.set_cons_zero, List.set_cons_succ])
  refine' Batch.det_take 2 (v := ?v39) ?hi39 (by kernel_rfl) (by kernel_rfl) (by kernel_rfl) (Batch.Does.val ?hw39 ?hv39) ?rest39
  case hi39 => (simp only [List.getElem?_toArray, List.getElem?_cons_succ, List.getElem?_cons_zero]; rfl)
  case hw39 => rfl
  case hv39 => (intro wx hSw; go_simp; (try with_reducible rfl))
  (try simp only [Act.put, List.setIfInBounds_toArray, List.set_cons_zero, List.set_cons_succ])
  refine' Batch.det_take 3 (v := ?v40) ?hi40 (by kernel_rfl) (by kernel_rfl) (by kernel_rfl) (Batch.Does.val ?hw40 ?hv40) ?rest40
  case hi40 => (simp only [List.getElem?_toArray, List.getElem?_cons_succ, List.getElem?_cons_zero]; rfl)
  case hw40 => rfl
  case hv40 => (intro wx hSw; go_simp; (try with_reducible rfl))
  (try simp only [Act.put, List.setIfInBounds_toArray, List.set_cons_zero, List.set_cons_succ])
  refine' Batch.det_take 4 (v := ?v41) ?hi41 (by kernel_rfl) (by kernel_rfl) (by kernel_rfl) (Batch.Does.val ?hw41 ?hv41) ?rest41
  case hi41 => (simp only [List.getElem?_toArray, List.getElem?_cons_succ, List.getElem?_cons_zero]; rfl)
  case hw41 => rfl
  case hv41 => (intro wx hSw; go_simp; (try with_reducible rfl))
  (try simp only [Act.put, List.setIfInBounds_toArray, List.set_cons_zero, List.set_cons_succ])
  refine' Batch.det_take 5 (v := ?v42) ?hi42 (by kernel_rfl) (by kernel_rfl) (by kernel_rfl) (Batch.Does.val ?hw42 ?hv42) ?rest42
  case hi42 => (simp only [List.getElem?_toArray, List.getElem?_cons_succ, List.getElem?_cons_zero]; rfl)
  case hw42 => rfl
  case hv42 => (intro wx hSw; go_simp; (try with_reducible rfl))
  (try simp only [Act.put, List.setIfInBounds_toArray, List.set_cons_zero, List.set_cons_succ])
  refine' Batch.det_take 6 (v := ?v43) ?hi43 (by kernel_rfl) (by kernel_rfl) (by kernel_rfl) (Batch.Does.val ?hw43 ?hv43) ?rest43
  case hi43 => (simp only [List.getElem?_toArray, List.getElem?_cons_succ, List.getElem?_cons_zero]; rfl)
  case hw43 => rfl
  case hv43 => (intro wx hSw; go_simp; (try with_reducible rfl))
  (try simp only [Act.put, List.setIfInBounds_toArray, List.set_cons_zero, List.set_cons_succ])
  refine' Batch.det_take 7 (v := ?v44) ?hi44 (by kernel_rfl) (by kernel_rfl) (by kernel_rfl) (Batch.Does.val ?hw44 ?hv44) ?rest44
  case hi44 => (simp only [List.getElem?_toArray, List.getElem?_cons_succ, List.getElem?_cons_zero]; rfl)
  case hw44 => rfl
  case hv44 => (intro wx hSw; go_simp; (try with_reducible rfl))
  (try simp only [Act.put, List.setIfInBounds_toArray, List.set_cons_zero, List.set_cons_succ])
  refine' Batch.det_take 8 (v := ?v45) ?hi45 (by kernel_rfl) (by kernel_rfl) (by kernel_rfl) (Batch.Does.val ?hw45 ?hv45) ?rest45
  case hi45 => (simp only [List.getElem?_toArray, List.getElem?_cons_succ, List.getElem?_cons_zero]; rfl)
  case hw45 => rfl
  case hv45 => (intro wx hSw; go_simp; (try with_reducible rfl))
  (try simp only [Act.put, List.setIfInBounds_toArray, List.set_cons_zero, List.set_cons_succ])
  refine Batch.det_done (by kernel_rfl) (fun v1_ hS => ?_) _
  have hdr : Below V1.heap.size V1 v1_ := by rw [hS]; exact Below.drew (Below.refl _ _)
  clear hS
  have Z4 := Lib.hid (Z3.out.to hdr)
  have VD4 := Lib.hid (VD3.out.to hdr)
  clear hdr Z3 VD3
  go_wp2_with fail
  refine (HD1.out _).mono ?_
  rintro e wq ⟨rfl, b⟩
  obtain rfl := b
  go_wp2_with fail
  refine (HD2.out _).mono ?_
  rintro e wq ⟨rfl, b⟩
  obtain rfl := b
  go_wp2_with fail
  refine (HNF.out _).mono ?_
  rintro e w5 ⟨⟨bn, on, cn, Ln, rfl, h⟩, b⟩
  have Wn := Lib.hid h
  clear h
  have ALnd := Lib.hid (Wn.out.fresh VD4.out.box.lt.2)
  have Z5 := Lib.hid (Z4.out.to b)
  have VD5 := Lib.hid (VD4.out.to b)
  clear b Z4 VD4
  go_upto_region 11 with fail
  have Z_ := Lib.hid (Z5.out.more (.cells #[.bool bn, .slice on Ln.length cn] 43))
  have VD_ := Lib.hid (VD5.out.more (.cells #[.bool bn, .slice on Ln.length cn] 43))
  have VN_ := Lib.hid (Vx.new Z5.out Wn.out.wh)
  have GN := Lib.hid (show w.heap.size + 1 ≤ w5.heap.size from by have := Z5.out.res.lt.2; omega)
  have NE := Lib.hid (show gd ≠ w5.heap.size from by have := VD5.out.box.lt.2; omega)
  have ALnn := Lib.hid (Wn.out.wh.old (Nat.le_refl _))
  have ALdn := Lib.hid (VD5.out.wh.old (Nat.le_refl _))
  obtain ⟨gn, hgn⟩ : ∃ g, g = w5.heap.size := ⟨_, rfl⟩
  obtain ⟨V2, hV2⟩ : ∃ V, V = w5.alloc (.cells #[.bool bn, .slice on Ln.length cn] 43) := ⟨_, rfl⟩
  rw [← hgn] at VN_ GN NE ALnn ALdn
  rw [← hV2] at Z_ VD_ VN_ ⊢
  (try rw [← hgn])
  clear hgn hV2 Wn Z5 VD5
  have Z6 := Z_
  have VD6 := VD_
  have VN6 := VN_
  clear Z_ VD_ VN_
  go_wp2_with fail
  refine (HNR.out _).mono ?_
  rintro e w7 ⟨⟨br, or, cr, Lr, rfl, h⟩, b⟩
  have Wr := Lib.hid h
  clear h
  have ALrd := Lib.hid (Wr.out.fresh VD6.out.box.lt.2)
  have ALrn := Lib.hid (Wr.out.fresh VN6.out.box.lt.2)
  have Z7 := Lib.hid (Z6.out.to b)
  have VD7 := Lib.hid (VD6.out.to b)
  have VN7 := Lib.hid (VN6.out.to b)
  clear b Z6 VD6 VN6
  obtain ⟨y0, y1, y2, y3, y4, y5, y6⟩ := VD7.out.box.stores (.bool br) (.slice or Lr.length cr)
  go_upto_region 13 with fail
  clear y0 y1 y2 y3 y4 y5 y6
  have Z8 := Lib.hid (Z7.out.far GD.out (.bool br) (.slice or Lr.length cr))
  have VD8 := Lib.hid (VD7.out.put Wr.out.wh ALrd.out)
  have VN8 := Lib.hid (VN7.out.far (gx := gd) (NE.out.symm) (.bool br) (.slice or Lr.length cr) ALnd.out)
  clear Z7 VD7 VN7
  obtain ⟨V8_, hV_⟩ : ∃ V, V = ((w7.setCell ⟨gd, 0, none⟩ (.bool br)).setCell ⟨gd, 1, none⟩ (.slice or Lr.length cr)) := ⟨_, rfl⟩
  rw [← hV_] at Z8 VD8 VN8 ⊢
  clear hV_
  obtain ⟨d0, d1⟩ := And.intro VD8.out.box.c0 VD8.out.box.c1
  go_wp2_with fail
  refine (signWY_any br or cr Lr zr _ VD8.out.wh).mono ?_
  rintro e w9 ⟨rfl, b⟩
  clear d0 d1
  have Z9 := Lib.hid (Z8.out.to b)
  have VD9 := Lib.hid (VD8.out.to b)
  have VN9 := Lib.hid (VN8.out.to b)
  clear b Z8 VD8 VN8
  obtain ⟨c0, c1⟩ := And.intro VN9.out.box.c0 VN9.out.box.c1
  go_wp2_with fail
  refine (negWY_any bn on cn Ln zf _ VN9.out.wh).mono ?_
  rintro e w10 ⟨⟨bm, Lm, rfl, h⟩, b⟩
  have Wm := Lib.hid h
  clear h c0 c1
  have Z10 := Lib.hid (Z9.out.to b)
  have VD10 := Lib.hid (VD9.out.to b)
  have VN10 := Lib.hid (VN9.out.to b)
  clear b Z9 VD9 VN9
  obtain ⟨y0, y1, y2, y3, y4, y5, y6⟩ := VN10.out.box.stores (.bool bm) (.slice on Lm.length cn)
  go_upto_region 19 with fail
  clear y0 y1 y2 y3 y4 y5 y6
  have Z11 := Lib.hid (Z10.out.far GN.out (.bool bm) (.slice on Lm.length cn))
  have VN11 := Lib.hid (VN10.out.put Wm.out ALnn.out)
  have VD11 := Lib.hid (VD10.out.far (gx := gn) (NE.out) (.bool bm) (.slice on Lm.length cn) ALrn.out)
  clear Z10 VD10 VN10
  obtain ⟨V11_, hV_⟩ : ∃ V, V = ((w10.setCell ⟨gn, 0, none⟩ (.bool bm)).setCell ⟨gn, 1, none⟩ (.slice on Lm.length cn)) := ⟨_, rfl⟩
  rw [← hV_] at Z11 VD11 VN11 ⊢
  clear hV_
  obtain ⟨c0, c1⟩ := And.intro VN11.out.box.c0 VN11.out.box.c1
  obtain ⟨d0, d1⟩ := And.intro VD11.out.box.c0 VD11.out.box.c1
  go_wp2_with fail
  refine (HMK.out bm on cn Lm br or cr Lr _ (HS.out.below Z11.out.below) VN11.out.wh VD11.out.wh).mono ?_
  rintro e wz ⟨rfl, b⟩
  have ZZ := Z11.out.to b
  obtain ⟨y0, y1, y2, y3, y4, y5, y6⟩ := ZZ.res.stores (.string pa) (.string pb)
  have HBE := Lib.hid ((ZZ.below.setCell (p := ⟨w.heap.size, 0, none⟩) (Nat.le_refl _) (.string pa)).setCell (p := ⟨w.heap.size, 1, none⟩) (Nat.le_refl _) (.string pb))
  clear c0 c1 d0 d1 b ZZ
  go_wp2_with fail
  (try simp only [Exit.inBlock, Exit.then])
  refine bodyPost_ret (v := .tuple #[ratV pa pb, .int .i64 0]) ?_ rfl ⟨rfl, HBE.out⟩
  rw [results_cell_tmp rfl]
  go_simp
set_option maxHeartbeats 6400000 in
set_option maxRecDepth 100000 in
theorem prR_dot_pos (s t f r q pa pb : ByteArray) (k : Nat) (zf zr zx : Int) (w : World) (hs0 : Std w) (q0 : ¬ (400 : Int) < s.size) (hk : k < t.size) (hb : t.size ≤ 1000) (hf : t.extract 0 k = f) (hr : t.extract (k + 1) t.size = r) (hc1 : f.size + r.size ≤ 9223372036854775807) (hc2 : (⟨#[49]⟩ : ByteArray).size + q.size ≤ 9223372036854775807) (y47 : (((t[k]'hk).toNat : Int) == 47) = false) (y46 : (((t[k]'hk).toNat : Int) == 46) = true) (hz : (sgnI zr == 0) = false) (qn : ¬ (t.size : Int) < s.size)
    (HTP : ∀ wx, Calls Tryz.prog 18 #[.string s, .string ⟨#[45]⟩] wx fun e w' => e = .returned (.string t) ∧ wx = w')
    (HIA : ∀ wx, Calls Tryz.prog 88 #[.string t, .string ⟨#[47, 46]⟩] wx fun e w' => e = .returned (.int .i64 (k : Int)) ∧ Below wx.heap.size wx w')
    (HOF : ∀ wx, Std wx → Calls Tryz.prog 60 #[.int .i64 1] wx fun e w' => (∃ (b : Bool) (o : Option Addr) (c : Nat) (L : List Nat), e = .returned (whV b o c L) ∧ Wf wx.heap.size w' b o c L (1)) ∧ Below wx.heap.size wx w')
    (HD1 : ∀ wx, Calls Tryz.prog 89 #[.string f] wx fun e w' => e = .returned (.bool true) ∧ wx = w')
    (HD2 : ∀ wx, Calls Tryz.prog 89 #[.string r] wx fun e w' => e = .returned (.bool true) ∧ wx = w')
    (HNF : ∀ wx, Calls Tryz.prog 90 #[.string f] wx fun e w' => (∃ (b : Bool) (o : Option Addr) (c : Nat) (L : List Nat), e = .returned (whV b o c L) ∧ Wf wx.heap.size w' b o c L (zf)) ∧ Below wx.heap.size wx w')
    (HNC : ∀ wx, Calls Tryz.prog 90 #[.string (f ++ r)] wx fun e w' => (∃ (b : Bool) (o : Option Addr) (c : Nat) (L : List Nat), e = .returned (whV b o c L) ∧ Wf wx.heap.size w' b o c L (zx)) ∧ Below wx.heap.size wx w')
    (HRP : ∀ wx, Calls Tryz.prog 30 #[.string ⟨#[48]⟩, .int .i64 r.size] wx fun e w' => e = .returned (.string q) ∧ Below wx.heap.size wx w')
    (HNT : ∀ wx, Calls Tryz.prog 90 #[.string (⟨#[49]⟩ ++ q)] wx fun e w' => (∃ (b : Bool) (o : Option Addr) (c : Nat) (L : List Nat), e = .returned (whV b o c L) ∧ Wf wx.heap.size w' b o c L (zr)) ∧ Below wx.heap.size wx w')
    (HMK : ∀ b1 o1 c1 L1 b2 o2 c2 L2 wx, Std wx → Wh wx b1 o1 c1 L1 zx → Wh wx b2 o2 c2 L2 zr → Calls Tryz.prog 24 #[whV b1 o1 c1 L1, whV b2 o2 c2 L2] wx fun e w' => e = .returned (ratV pa pb) ∧ Below wx.heap.size wx w') :
    Calls Tryz.prog 31 #[.string s] w fun e w' => e = .returned (.tuple #[ratV pa pb, .int .i64 0]) ∧ Below w.heap.size w w' := by
  have p0 : (0 : Int) ≤ k := by omega
  have p1 : (k : Int) ≤ t.size := by omega
  have hwr : IntKind.i64.wrap ((k : Int) + 1) = (k : Int) + 1 := wrap_small _ (by omega) (by omega)
  have p2 : (0 : Int) ≤ (k : Int) + 1 := by omega
  have p3 : (k : Int) + 1 ≤ t.size := by omega
  have p4 : (k : Int) < t.size := by omega
  clear hb
  have HTP_ := Lib.hid HTP
  clear HTP
  have HTP := HTP_
  clear HTP_
  have HIA_ := Lib.hid HIA
  clear HIA
  have HIA := HIA_
  clear HIA_
  have HOF_ := Lib.hid HOF
  clear HOF
  have HOF := HOF_
  clear HOF_
  have HD1_ := Lib.hid HD1
  clear HD1
  have HD1 := HD1_
  clear HD1_
  have HD2_ := Lib.hid HD2
  clear HD2
  have HD2 := HD2_
  clear HD2_
  have HNF_ := Lib.hid HNF
  clear HNF
  have HNF := HNF_
  clear HNF_
  have HNC_ := Lib.hid HNC
  clear HNC
  have HNC := HNC_
  clear HNC_
  have HRP_ := Lib.hid HRP
  clear HRP
  have HRP := HRP_
  clear HRP_
  have HNT_ := Lib.hid HNT
  clear HNT
  have HNT := HNT_
  clear HNT_
  have HMK_ := Lib.hid HMK
  clear HMK
  have HMK := HMK_
  clear HMK_
  have HS := Lib.hid hs0
  clear hs0
  go_enter Tryz.func31, Tryz.ntmps31
  go_upto_region 1 with fail
  have Z0 := Lib.hid (Bz.new w)
  obtain ⟨w0, hw0⟩ : ∃ w0, w0 = w.alloc (.cells #[.string ⟨#[]⟩, .string ⟨#[]⟩] 24) := ⟨_, rfl⟩
  rw [← hw0] at Z0 ⊢
  clear hw0
  go_wp2_with fail
  refine (HTP.out _).mono ?_
  rintro e wq ⟨rfl, b⟩
  obtain rfl := b
  go_wp2_with fail
  refine (HIA.out _).mono ?_
  rintro e w1 ⟨rfl, b⟩
  have Z1 := Lib.hid (Z0.out.to b)
  clear b Z0
  go_wp2_with fail
  refine (HOF.out _ (HS.out.below Z1.out.below)).mono ?_
  rintro e w2 ⟨⟨bd, od, cd, Ld, rfl, h⟩, b⟩
  have Wd := Lib.hid h
  clear h
  have Z2 := Lib.hid (Z1.out.to b)
  clear b Z1
  go_upto_region 6 with fail
  have Z_ := Lib.hid (Z2.out.more (.cells #[.bool bd, .slice od Ld.length cd] 43))
  have VD_ := Lib.hid (Vx.new Z2.out Wd.out.wh)
  have GD := Lib.hid (show w.heap.size + 1 ≤ w2.heap.size from by have := Z2.out.res.lt.2; omega)
  have ALdd := Lib.hid (Wd.out.wh.old (Nat.le_refl _))
  obtain ⟨gd, hgd⟩ : ∃ g, g = w2.heap.size := ⟨_, rfl⟩
  obtain ⟨V1, hV1⟩ : ∃ V, V = w2.alloc (.cells #[.bool bd, .slice od Ld.length cd] 43) := ⟨_, rfl⟩
  rw [← hgd] at VD_ GD ALdd
  rw [← hV1] at Z_ VD_ ⊢
  (try rw [← hgd])
  clear hgd hV1 Wd Z2
  have Z3 := Z_
  have VD3 := VD_
  clear Z_ VD_
  go_upto_region 7 with fail
  refine Batch.wp_region_det (S := fun W => W = V1.drew) (by kernel_rfl) rfl ?_
  refine' Batch.det_take 0 (v := ?v46) ?hi46 (by kernel_rfl) (by kernel_rfl) (by kernel_rfl) (Batch.Does.val ?hw46 ?hv46) ?rest46
  case hi46 => (simp only [List.getElem?_toArray, List.getElem?_cons_zero]; rfl)
  case hw46 => rfl
  case hv46 => (intro wx hSw; go_simp; (try with_reducible rfl))
  (try simp only [Act.put, List.setIfInBounds_toArray, List.set_cons_zero, List.set_cons_succ])
  refine' Batch.det_take 1 (v := ?v47) ?hi47 (by kernel_rfl) (by kernel_rfl) (by kernel_rfl) (Batch.Does.val ?hw47 ?hv47) ?rest47
  case hi47 => (simp only [List.getElem?_toArray, List.getElem?_cons_succ, List.getElem?_cons_zero]; rfl)
  case hw47 => rfl
  case hv47 => (intro wx hSw; go_simp; (try with_reducible rfl))
  (try simp only [Act.put, List.setIfInBounds_toArray, List.set_cons_zero, List.set_cons_succ])
  refine' Batch.det_take 2 (v := ?v48) ?hi48 (by kernel_rfl) (by kernel_rfl) (by kernel_rfl) (Batch.Does.val ?hw48 ?hv48) ?rest48
  case hi48 => (simp only [List.getElem?_toArray, List.getElem?_cons_succ, List.getElem?_cons_zero]; rfl)
  case hw48 => rfl
  case hv48 => (intro wx hSw; go_simp; (try with_reducible rfl))
  (try simp only [Act.put, List.setIfInBounds_toArray, List.set_cons_zero, List.set_cons_succ])
  refine' Batch.det_take 3 (v := ?v49) ?hi49 (by kernel_rfl) (by kernel_rfl) (by kernel_rfl) (Batch.Does.val ?hw49 ?hv49) ?rest49
  case hi49 => (simp only [List.getElem?_toArray, List.getElem?_cons_succ, List.getElem?_cons_zero]; rfl)
  case hw49 => rfl
  case hv49 => (intro wx hSw; go_simp; (try with_reducible rfl))
  (try simp only [Act.put, List.setIfInBounds_toArray, List.set_cons_zero, List.set_cons_succ])
  refine' Batch.det_take 4 (v := ?v50) ?hi50 (by kernel_rfl) (by kernel_rfl) (by kernel_rfl) (Batch.Does.val ?hw50 ?hv50) ?rest50
  case hi50 => (simp only [List.getElem?_toArray, List.getElem?_cons_succ, List.getElem?_cons_zero]; rfl)
  case hw50 => rfl
  case hv50 => (intro wx hSw; go_simp; (try with_reducible rfl))
  (try simp only [Act.put, List.setIfInBounds_toArray, List.set_cons_zero, List.set_cons_succ])
  refine' Batch.det_take 5 (v := ?v51) ?hi51 (by kernel_rfl) (by kernel_rfl) (by kernel_rfl) (Batch.Does.val ?hw51 ?hv51) ?rest51
  case hi51 => (simp only [List.getElem?_toArray, List.getElem?_cons_succ, List.getElem?_cons_zero]; rfl)
  case hw51 => rfl
  case hv51 => (intro wx hSw; go_simp; (try with_reducible rfl))
  (try simp only [Act.put, List.setIfInBounds_toArray, List.set_cons_zero, List.set_cons_succ])
  refine' Batch.det_take 6 (v := ?v52) ?hi52 (by kernel_rfl) (by kernel_rfl) (by kernel_rfl) (Batch.Does.val ?hw52 ?hv52) ?rest52
  case hi52 => (simp only [List.getElem?_toArray, List.getElem?_cons_succ, List.getElem?_cons_zero]; rfl)
  case hw52 => rfl
  case hv52 => (intro wx hSw; go_simp; (try with_reducible rfl))
  (try simp only [Act.put, List.setIfInBounds_toArray, List.set_cons_zero, List.set_cons_succ])
  refine' Batch.det_take 7 (v := ?v53) ?hi53 (by kernel_rfl) (by kernel_rfl) (by kernel_rfl) (Batch.Does.val ?hw53 ?hv53) ?rest53
  case hi53 => (simp only [List.getElem?_toArray, List.getElem?_cons_succ, List.getElem?_cons_zero]; rfl)
  case hw53 => rfl
  case hv53 => (intro wx hSw; go_simp; (try with_reducible rfl))
  (try simp only [Act.put, List.setIfInBounds_toArray, List.set_cons_zero, List.set_cons_succ])
  refine' Batch.det_take 8 (v := ?v54) ?hi54 (by kernel_rfl) (by kernel_rfl) (by kernel_rfl) (Batch.Does.val ?hw54 ?hv54) ?rest54
  case hi54 => (simp only [List.getElem?_toArray, List.getElem?_cons_succ, List.getElem?_cons_zero]; rfl)
  case hw54 => rfl
  case hv54 => (intro wx hSw; go_simp; (try with_reducible rfl))
  (try simp only [Act.put, List.setIfInBounds_toArray, List.set_cons_zero, List.set_cons_succ])
  refine Batch.det_done (by kernel_rfl) (fun v1_ hS => ?_) _
  have hdr : Below V1.heap.size V1 v1_ := by rw [hS]; exact Below.drew (Below.refl _ _)
  clear hS
  have Z4 := Lib.hid (Z3.out.to hdr)
  have VD4 := Lib.hid (VD3.out.to hdr)
  clear hdr Z3 VD3
  go_wp2_with fail
  refine (HD1.out _).mono ?_
  rintro e wq ⟨rfl, b⟩
  obtain rfl := b
  go_wp2_with fail
  refine (HD2.out _).mono ?_
  rintro e wq ⟨rfl, b⟩
  obtain rfl := b
  go_wp2_with fail
  refine (HNF.out _).mono ?_
  rintro e w5 ⟨⟨bn, on, cn, Ln, rfl, h⟩, b⟩
  have Wn := Lib.hid h
  clear h
  have ALnd := Lib.hid (Wn.out.fresh VD4.out.box.lt.2)
  have Z5 := Lib.hid (Z4.out.to b)
  have VD5 := Lib.hid (VD4.out.to b)
  clear b Z4 VD4
  go_upto_region 11 with fail
  have Z_ := Lib.hid (Z5.out.more (.cells #[.bool bn, .slice on Ln.length cn] 43))
  have VD_ := Lib.hid (VD5.out.more (.cells #[.bool bn, .slice on Ln.length cn] 43))
  have VN_ := Lib.hid (Vx.new Z5.out Wn.out.wh)
  have GN := Lib.hid (show w.heap.size + 1 ≤ w5.heap.size from by have := Z5.out.res.lt.2; omega)
  have NE := Lib.hid (show gd ≠ w5.heap.size from by have := VD5.out.box.lt.2; omega)
  have ALnn := Lib.hid (Wn.out.wh.old (Nat.le_refl _))
  have ALdn := Lib.hid (VD5.out.wh.old (Nat.le_refl _))
  obtain ⟨gn, hgn⟩ : ∃ g, g = w5.heap.size := ⟨_, rfl⟩
  obtain ⟨V2, hV2⟩ : ∃ V, V = w5.alloc (.cells #[.bool bn, .slice on Ln.length cn] 43) := ⟨_, rfl⟩
  rw [← hgn] at VN_ GN NE ALnn ALdn
  rw [← hV2] at Z_ VD_ VN_ ⊢
  (try rw [← hgn])
  clear hgn hV2 Wn Z5 VD5
  have Z6 := Z_
  have VD6 := VD_
  have VN6 := VN_
  clear Z_ VD_ VN_
  go_upto_region 14 with fail
  go_wp2_with fail
  refine (HNC.out _).mono ?_
  rintro e w7 ⟨⟨bx, ox, cx, Lx, rfl, h⟩, b⟩
  have Wx := Lib.hid h
  clear h
  have ALxd := Lib.hid (Wx.out.fresh VD6.out.box.lt.2)
  have ALxn := Lib.hid (Wx.out.fresh VN6.out.box.lt.2)
  have Z7 := Lib.hid (Z6.out.to b)
  have VD7 := Lib.hid (VD6.out.to b)
  have VN7 := Lib.hid (VN6.out.to b)
  clear b Z6 VD6 VN6
  go_wp2_with fail
  refine (HRP.out _).mono ?_
  rintro e w8 ⟨rfl, b⟩
  have Wx_ := Lib.hid (Wx.out.below b)
  clear Wx
  have Wx := Wx_
  clear Wx_
  have Z8 := Lib.hid (Z7.out.to b)
  have VD8 := Lib.hid (VD7.out.to b)
  have VN8 := Lib.hid (VN7.out.to b)
  clear b Z7 VD7 VN7
  go_wp2_with fail
  refine (HNT.out _).mono ?_
  rintro e w9 ⟨⟨bv, ov, cv, Lv, rfl, h⟩, b⟩
  have Wv := Lib.hid h
  clear h
  have ALvd := Lib.hid (Wv.out.fresh VD8.out.box.lt.2)
  have ALvn := Lib.hid (Wv.out.fresh VN8.out.box.lt.2)
  have Wx_ := Lib.hid (Wx.out.below b)
  clear Wx
  have Wx := Wx_
  clear Wx_
  have Z9 := Lib.hid (Z8.out.to b)
  have VD9 := Lib.hid (VD8.out.to b)
  have VN9 := Lib.hid (VN8.out.to b)
  clear b Z8 VD8 VN8
  have VDf := VD9.out.far (gx := gn) NE.out (.bool bx) (.slice ox Lx.length cx) ALdn.out
  obtain ⟨y0, y1, y2, y3, y4, y5, y6⟩ := VN9.out.box.stores (.bool bx) (.slice ox Lx.length cx)
  obtain ⟨u0, u1, u2, u3, u4, u5, u6⟩ := VDf.box.stores (.bool bv) (.slice ov Lv.length cv)
  clear VDf
  go_upto_region 15 with fail
  clear y0 y1 y2 y3 y4 y5 y6 u0 u1 u2 u3 u4 u5 u6
  have Wv_ := Lib.hid Wv.out.wh
  clear Wv
  have Wv := Wv_
  clear Wv_
  have Z10 := Lib.hid (Z9.out.far GN.out (.bool bx) (.slice ox Lx.length cx))
  have VN10 := Lib.hid (VN9.out.put Wx.out.wh ALxn.out)
  have VD10 := Lib.hid (VD9.out.far (gx := gn) (NE.out) (.bool bx) (.slice ox Lx.length cx) ALdn.out)
  have Wv_ := Lib.hid (Wv.out.far (gx := gn) (.bool bx) (.slice ox Lx.length cx) ALvn.out)
  clear Wv
  have Wv := Wv_
  clear Wv_
  clear Z9 VD9 VN9
  obtain ⟨V10_, hV_⟩ : ∃ V, V = ((w9.setCell ⟨gn, 0, none⟩ (.bool bx)).setCell ⟨gn, 1, none⟩ (.slice ox Lx.length cx)) := ⟨_, rfl⟩
  rw [← hV_] at Z10 VD10 VN10 Wv ⊢
  clear hV_
  have Z11 := Lib.hid (Z10.out.far GD.out (.bool bv) (.slice ov Lv.length cv))
  have VD11 := Lib.hid (VD10.out.put Wv.out ALvd.out)
  have VN11 := Lib.hid (VN10.out.far (gx := gd) (NE.out.symm) (.bool bv) (.slice ov Lv.length cv) ALxd.out)
  clear Z10 VD10 VN10
  obtain ⟨V11_, hV_⟩ : ∃ V, V = ((V10_.setCell ⟨gd, 0, none⟩ (.bool bv)).setCell ⟨gd, 1, none⟩ (.slice ov Lv.length cv)) := ⟨_, rfl⟩
  rw [← hV_] at Z11 VD11 VN11 ⊢
  clear hV_
  obtain ⟨d0, d1⟩ := And.intro VD11.out.box.c0 VD11.out.box.c1
  go_wp2_with fail
  refine (signWY_any bv ov cv Lv zr _ VD11.out.wh).mono ?_
  rintro e w12 ⟨rfl, b⟩
  clear d0 d1
  have Z12 := Lib.hid (Z11.out.to b)
  have VD12 := Lib.hid (VD11.out.to b)
  have VN12 := Lib.hid (VN11.out.to b)
  clear b Z11 VD11 VN11
  obtain ⟨c0, c1⟩ := And.intro VN12.out.box.c0 VN12.out.box.c1
  obtain ⟨d0, d1⟩ := And.intro VD12.out.box.c0 VD12.out.box.c1
  go_wp2_with fail
  refine (HMK.out bx ox cx Lx bv ov cv Lv _ (HS.out.below Z12.out.below) VN12.out.wh VD12.out.wh).mono ?_
  rintro e wz ⟨rfl, b⟩
  have ZZ := Z12.out.to b
  obtain ⟨y0, y1, y2, y3, y4, y5, y6⟩ := ZZ.res.stores (.string pa) (.string pb)
  have HBE := Lib.hid ((ZZ.below.setCell (p := ⟨w.heap.size, 0, none⟩) (Nat.le_refl _) (.string pa)).setCell (p := ⟨w.heap.size, 1, none⟩) (Nat.le_refl _) (.string pb))
  clear c0 c1 d0 d1 b ZZ
  go_wp2_with fail
  (try simp only [Exit.inBlock, Exit.then])
  refine bodyPost_ret (v := .tuple #[ratV pa pb, .int .i64 0]) ?_ rfl ⟨rfl, HBE.out⟩
  rw [results_cell_tmp rfl]
  go_simp
set_option maxHeartbeats 6400000 in
set_option maxRecDepth 100000 in
theorem prR_dot_neg (s t f r q pa pb : ByteArray) (k : Nat) (zf zr zx : Int) (w : World) (hs0 : Std w) (q0 : ¬ (400 : Int) < s.size) (hk : k < t.size) (hb : t.size ≤ 1000) (hf : t.extract 0 k = f) (hr : t.extract (k + 1) t.size = r) (hc1 : f.size + r.size ≤ 9223372036854775807) (hc2 : (⟨#[49]⟩ : ByteArray).size + q.size ≤ 9223372036854775807) (y47 : (((t[k]'hk).toNat : Int) == 47) = false) (y46 : (((t[k]'hk).toNat : Int) == 46) = true) (hz : (sgnI zr == 0) = false) (qn : (t.size : Int) < s.size)
    (HTP : ∀ wx, Calls Tryz.prog 18 #[.string s, .string ⟨#[45]⟩] wx fun e w' => e = .returned (.string t) ∧ wx = w')
    (HIA : ∀ wx, Calls Tryz.prog 88 #[.string t, .string ⟨#[47, 46]⟩] wx fun e w' => e = .returned (.int .i64 (k : Int)) ∧ Below wx.heap.size wx w')
    (HOF : ∀ wx, Std wx → Calls Tryz.prog 60 #[.int .i64 1] wx fun e w' => (∃ (b : Bool) (o : Option Addr) (c : Nat) (L : List Nat), e = .returned (whV b o c L) ∧ Wf wx.heap.size w' b o c L (1)) ∧ Below wx.heap.size wx w')
    (HD1 : ∀ wx, Calls Tryz.prog 89 #[.string f] wx fun e w' => e = .returned (.bool true) ∧ wx = w')
    (HD2 : ∀ wx, Calls Tryz.prog 89 #[.string r] wx fun e w' => e = .returned (.bool true) ∧ wx = w')
    (HNF : ∀ wx, Calls Tryz.prog 90 #[.string f] wx fun e w' => (∃ (b : Bool) (o : Option Addr) (c : Nat) (L : List Nat), e = .returned (whV b o c L) ∧ Wf wx.heap.size w' b o c L (zf)) ∧ Below wx.heap.size wx w')
    (HNC : ∀ wx, Calls Tryz.prog 90 #[.string (f ++ r)] wx fun e w' => (∃ (b : Bool) (o : Option Addr) (c : Nat) (L : List Nat), e = .returned (whV b o c L) ∧ Wf wx.heap.size w' b o c L (zx)) ∧ Below wx.heap.size wx w')
    (HRP : ∀ wx, Calls Tryz.prog 30 #[.string ⟨#[48]⟩, .int .i64 r.size] wx fun e w' => e = .returned (.string q) ∧ Below wx.heap.size wx w')
    (HNT : ∀ wx, Calls Tryz.prog 90 #[.string (⟨#[49]⟩ ++ q)] wx fun e w' => (∃ (b : Bool) (o : Option Addr) (c : Nat) (L : List Nat), e = .returned (whV b o c L) ∧ Wf wx.heap.size w' b o c L (zr)) ∧ Below wx.heap.size wx w')
    (HMK : ∀ b1 o1 c1 L1 b2 o2 c2 L2 wx, Std wx → Wh wx b1 o1 c1 L1 (-zx) → Wh wx b2 o2 c2 L2 zr → Calls Tryz.prog 24 #[whV b1 o1 c1 L1, whV b2 o2 c2 L2] wx fun e w' => e = .returned (ratV pa pb) ∧ Below wx.heap.size wx w') :
    Calls Tryz.prog 31 #[.string s] w fun e w' => e = .returned (.tuple #[ratV pa pb, .int .i64 0]) ∧ Below w.heap.size w w' := by
  have p0 : (0 : Int) ≤ k := by omega
  have p1 : (k : Int) ≤ t.size := by omega
  have hwr : IntKind.i64.wrap ((k : Int) + 1) = (k : Int) + 1 := wrap_small _ (by omega) (by omega)
  have p2 : (0 : Int) ≤ (k : Int) + 1 := by omega
  have p3 : (k : Int) + 1 ≤ t.size := by omega
  have p4 : (k : Int) < t.size := by omega
  clear hb
  have HTP_ := Lib.hid HTP
  clear HTP
  have HTP := HTP_
  clear HTP_
  have HIA_ := Lib.hid HIA
  clear HIA
  have HIA := HIA_
  clear HIA_
  have HOF_ := Lib.hid HOF
  clear HOF
  have HOF := HOF_
  clear HOF_
  have HD1_ := Lib.hid HD1
  clear HD1
  have HD1 := HD1_
  clear HD1_
  have HD2_ := Lib.hid HD2
  clear HD2
  have HD2 := HD2_
  clear HD2_
  have HNF_ := Lib.hid HNF
  clear HNF
  have HNF := HNF_
  clear HNF_
  have HNC_ := Lib.hid HNC
  clear HNC
  have HNC := HNC_
  clear HNC_
  have HRP_ := Lib.hid HRP
  clear HRP
  have HRP := HRP_
  clear HRP_
  have HNT_ := Lib.hid HNT
  clear HNT
  have HNT := HNT_
  clear HNT_
  have HMK_ := Lib.hid HMK
  clear HMK
  have HMK := HMK_
  clear HMK_
  have HS := Lib.hid hs0
  clear hs0
  go_enter Tryz.func31, Tryz.ntmps31
  go_upto_region 1 with fail
  have Z0 := Lib.hid (Bz.new w)
  obtain ⟨w0, hw0⟩ : ∃ w0, w0 = w.alloc (.cells #[.string ⟨#[]⟩, .string ⟨#[]⟩] 24) := ⟨_, rfl⟩
  rw [← hw0] at Z0 ⊢
  clear hw0
  go_wp2_with fail
  refine (HTP.out _).mono ?_
  rintro e wq ⟨rfl, b⟩
  obtain rfl := b
  go_wp2_with fail
  refine (HIA.out _).mono ?_
  rintro e w1 ⟨rfl, b⟩
  have Z1 := Lib.hid (Z0.out.to b)
  clear b Z0
  go_wp2_with fail
  refine (HOF.out _ (HS.out.below Z1.out.below)).mono ?_
  rintro e w2 ⟨⟨bd, od, cd, Ld, rfl, h⟩, b⟩
  have Wd := Lib.hid h
  clear h
  have Z2 := Lib.hid (Z1.out.to b)
  clear b Z1
  go_upto_region 6 with fail
  have Z_ := Lib.hid (Z2.out.more (.cells #[.bool bd, .slice od Ld.length cd] 43))
  have VD_ := Lib.hid (Vx.new Z2.out Wd.out.wh)
  have GD := Lib.hid (show w.heap.size + 1 ≤ w2.heap.size from by have := Z2.out.res.lt.2; omega)
  have ALdd := Lib.hid (Wd.out.wh.old (Nat.le_refl _))
  obtain ⟨gd, hgd⟩ : ∃ g, g = w2.heap.size := ⟨_, rfl⟩
  obtain ⟨V1, hV1⟩ : ∃ V, V = w2.alloc (.cells #[.bool bd, .slice od Ld.length cd] 43) := ⟨_, rfl⟩
  rw [← hgd] at VD_ GD ALdd
  rw [← hV1] at Z_ VD_ ⊢
  (try rw [← hgd])
  clear hgd hV1 Wd Z2
  have Z3 := Z_
  have VD3 := VD_
  clear Z_ VD_
  go_upto_region 7 with fail
  refine Batch.wp_region_det (S := fun W => W = V1.drew) (by kernel_rfl) rfl ?_
  refine' Batch.det_take 0 (v := ?v55) ?hi55 (by kernel_rfl) (by kernel_rfl) (by kernel_rfl) (Batch.Does.val ?hw55 ?hv55) ?rest55
  case hi55 => (simp only [List.getElem?_toArray, List.getElem?_cons_zero]; rfl)
  case hw55 => rfl
  case hv55 => (intro wx hSw; go_simp; (try with_reducible rfl))
  (try simp only [Act.put, List.setIfInBounds_toArray, List.set_cons_zero, List.set_cons_succ])
  refine' Batch.det_take 1 (v := ?v56) ?hi56 (by kernel_rfl) (by kernel_rfl) (by kernel_rfl) (Batch.Does.val ?hw56 ?hv56) ?rest56
  case hi56 => (simp only [List.getElem?_toArray, List.getElem?_cons_succ, List.getElem?_cons_zero]; rfl)
  case hw56 => rfl
  case hv56 => (intro wx hSw; go_simp; (try with_reducible rfl))
  (try simp only [Act.put, List.setIfInBounds_toArray, List.set_cons_zero, List.set_cons_succ])
  refine' Batch.det_take 2 (v := ?v57) ?hi57 (by kernel_rfl) (by kernel_rfl) (by kernel_rfl) (Batch.Does.val ?hw57 ?hv57) ?rest57
  case hi57 => (simp only [List.getElem?_toArray, List.getElem?_cons_succ, List.getElem?_cons_zero]; rfl)
  case hw57 => rfl
  case hv57 => (intro wx hSw; go_simp; (try with_reducible rfl))
  (try simp only [Act.put, List.setIfInBounds_toArray, List.set_cons_zero, List.set_cons_succ])
  refine' Batch.det_take 3 (v := ?v58) ?hi58 (by kernel_rfl) (by kernel_rfl) (by kernel_rfl) (Batch.Does.val ?hw58 ?hv58) ?rest58
  case hi58 => (simp only [List.getElem?_toArray, List.getElem?_cons_succ, List.getElem?_cons_zero]; rfl)
  case hw58 => rfl
  case hv58 => (intro wx hSw; go_simp; (try with_reducible rfl))
  (try simp only [Act.put, List.setIfInBounds_toArray, List.set_cons_zero, List.set_cons_succ])
  refine' Batch.det_take 4 (v := ?v59) ?hi59 (by kernel_rfl) (by kernel_rfl) (by kernel_rfl) (Batch.Does.val ?hw59 ?hv59) ?rest59
  case hi59 => (simp only [List.getElem?_toArray, List.getElem?_cons_succ, List.getElem?_cons_zero]; rfl)
  case hw59 => rfl
  case hv59 => (intro wx hSw; go_simp; (try with_reducible rfl))
  (try simp only [Act.put, List.setIfInBounds_toArray, List.set_cons_zero, List.set_cons_succ])
  refine' Batch.det_take 5 (v := ?v60) ?hi60 (by kernel_rfl) (by kernel_rfl) (by kernel_rfl) (Batch.Does.val ?hw60 ?hv60) ?rest60
  case hi60 => (simp only [List.getElem?_toArray, List.getElem?_cons_succ, List.getElem?_cons_zero]; rfl)
  case hw60 => rfl
  case hv60 => (intro wx hSw; go_simp; (try with_reducible rfl))
  (try simp only [Act.put, List.setIfInBounds_toArray, List.set_cons_zero, List.set_cons_succ])
  refine' Batch.det_take 6 (v := ?v61) ?hi61 (by kernel_rfl) (by kernel_rfl) (by kernel_rfl) (Batch.Does.val ?hw61 ?hv61) ?rest61
  case hi61 => (simp only [List.getElem?_toArray, List.getElem?_cons_succ, List.getElem?_cons_zero]; rfl)
  case hw61 => rfl
  case hv61 => (intro wx hSw; go_simp; (try with_reducible rfl))
  (try simp only [Act.put, List.setIfInBounds_toArray, List.set_cons_zero, List.set_cons_succ])
  refine' Batch.det_take 7 (v := ?v62) ?hi62 (by kernel_rfl) (by kernel_rfl) (by kernel_rfl) (Batch.Does.val ?hw62 ?hv62) ?rest62
  case hi62 => (simp only [List.getElem?_toArray, List.getElem?_cons_succ, List.getElem?_cons_zero]; rfl)
  case hw62 => rfl
  case hv62 => (intro wx hSw; go_simp; (try with_reducible rfl))
  (try simp only [Act.put, List.setIfInBounds_toArray, List.set_cons_zero, List.set_cons_succ])
  refine' Batch.det_take 8 (v := ?v63) ?hi63 (by kernel_rfl) (by kernel_rfl) (by kernel_rfl) (Batch.Does.val ?hw63 ?hv63) ?rest63
  case hi63 => (simp only [List.getElem?_toArray, List.getElem?_cons_succ, List.getElem?_cons_zero]; rfl)
  case hw63 => rfl
  case hv63 => (intro wx hSw; go_simp; (try with_reducible rfl))
  (try simp only [Act.put, List.setIfInBounds_toArray, List.set_cons_zero, List.set_cons_succ])
  refine Batch.det_done (by kernel_rfl) (fun v1_ hS => ?_) _
  have hdr : Below V1.heap.size V1 v1_ := by rw [hS]; exact Below.drew (Below.refl _ _)
  clear hS
  have Z4 := Lib.hid (Z3.out.to hdr)
  have VD4 := Lib.hid (VD3.out.to hdr)
  clear hdr Z3 VD3
  go_wp2_with fail
  refine (HD1.out _).mono ?_
  rintro e wq ⟨rfl, b⟩
  obtain rfl := b
  go_wp2_with fail
  refine (HD2.out _).mono ?_
  rintro e wq ⟨rfl, b⟩
  obtain rfl := b
  go_wp2_with fail
  refine (HNF.out _).mono ?_
  rintro e w5 ⟨⟨bn, on, cn, Ln, rfl, h⟩, b⟩
  have Wn := Lib.hid h
  clear h
  have ALnd := Lib.hid (Wn.out.fresh VD4.out.box.lt.2)
  have Z5 := Lib.hid (Z4.out.to b)
  have VD5 := Lib.hid (VD4.out.to b)
  clear b Z4 VD4
  go_upto_region 11 with fail
  have Z_ := Lib.hid (Z5.out.more (.cells #[.bool bn, .slice on Ln.length cn] 43))
  have VD_ := Lib.hid (VD5.out.more (.cells #[.bool bn, .slice on Ln.length cn] 43))
  have VN_ := Lib.hid (Vx.new Z5.out Wn.out.wh)
  have GN := Lib.hid (show w.heap.size + 1 ≤ w5.heap.size from by have := Z5.out.res.lt.2; omega)
  have NE := Lib.hid (show gd ≠ w5.heap.size from by have := VD5.out.box.lt.2; omega)
  have ALnn := Lib.hid (Wn.out.wh.old (Nat.le_refl _))
  have ALdn := Lib.hid (VD5.out.wh.old (Nat.le_refl _))
  obtain ⟨gn, hgn⟩ : ∃ g, g = w5.heap.size := ⟨_, rfl⟩
  obtain ⟨V2, hV2⟩ : ∃ V, V = w5.alloc (.cells #[.bool bn, .slice on Ln.length cn] 43) := ⟨_, rfl⟩
  rw [← hgn] at VN_ GN NE ALnn ALdn
  rw [← hV2] at Z_ VD_ VN_ ⊢
  (try rw [← hgn])
  clear hgn hV2 Wn Z5 VD5
  have Z6 := Z_
  have VD6 := VD_
  have VN6 := VN_
  clear Z_ VD_ VN_
  go_upto_region 14 with fail
  go_wp2_with fail
  refine (HNC.out _).mono ?_
  rintro e w7 ⟨⟨bx, ox, cx, Lx, rfl, h⟩, b⟩
  have Wx := Lib.hid h
  clear h
  have ALxd := Lib.hid (Wx.out.fresh VD6.out.box.lt.2)
  have ALxn := Lib.hid (Wx.out.fresh VN6.out.box.lt.2)
  have Z7 := Lib.hid (Z6.out.to b)
  have VD7 := Lib.hid (VD6.out.to b)
  have VN7 := Lib.hid (VN6.out.to b)
  clear b Z6 VD6 VN6
  go_wp2_with fail
  refine (HRP.out _).mono ?_
  rintro e w8 ⟨rfl, b⟩
  have Wx_ := Lib.hid (Wx.out.below b)
  clear Wx
  have Wx := Wx_
  clear Wx_
  have Z8 := Lib.hid (Z7.out.to b)
  have VD8 := Lib.hid (VD7.out.to b)
  have VN8 := Lib.hid (VN7.out.to b)
  clear b Z7 VD7 VN7
  go_wp2_with fail
  refine (HNT.out _).mono ?_
  rintro e w9 ⟨⟨bv, ov, cv, Lv, rfl, h⟩, b⟩
  have Wv := Lib.hid h
  clear h
  have ALvd := Lib.hid (Wv.out.fresh VD8.out.box.lt.2)
  have ALvn := Lib.hid (Wv.out.fresh VN8.out.box.lt.2)
  have Wx_ := Lib.hid (Wx.out.below b)
  clear Wx
  have Wx := Wx_
  clear Wx_
  have Z9 := Lib.hid (Z8.out.to b)
  have VD9 := Lib.hid (VD8.out.to b)
  have VN9 := Lib.hid (VN8.out.to b)
  clear b Z8 VD8 VN8
  have VDf := VD9.out.far (gx := gn) NE.out (.bool bx) (.slice ox Lx.length cx) ALdn.out
  obtain ⟨y0, y1, y2, y3, y4, y5, y6⟩ := VN9.out.box.stores (.bool bx) (.slice ox Lx.length cx)
  obtain ⟨u0, u1, u2, u3, u4, u5, u6⟩ := VDf.box.stores (.bool bv) (.slice ov Lv.length cv)
  clear VDf
  go_upto_region 15 with fail
  clear y0 y1 y2 y3 y4 y5 y6 u0 u1 u2 u3 u4 u5 u6
  have Wv_ := Lib.hid Wv.out.wh
  clear Wv
  have Wv := Wv_
  clear Wv_
  have Z10 := Lib.hid (Z9.out.far GN.out (.bool bx) (.slice ox Lx.length cx))
  have VN10 := Lib.hid (VN9.out.put Wx.out.wh ALxn.out)
  have VD10 := Lib.hid (VD9.out.far (gx := gn) (NE.out) (.bool bx) (.slice ox Lx.length cx) ALdn.out)
  have Wv_ := Lib.hid (Wv.out.far (gx := gn) (.bool bx) (.slice ox Lx.length cx) ALvn.out)
  clear Wv
  have Wv := Wv_
  clear Wv_
  clear Z9 VD9 VN9
  obtain ⟨V10_, hV_⟩ : ∃ V, V = ((w9.setCell ⟨gn, 0, none⟩ (.bool bx)).setCell ⟨gn, 1, none⟩ (.slice ox Lx.length cx)) := ⟨_, rfl⟩
  rw [← hV_] at Z10 VD10 VN10 Wv ⊢
  clear hV_
  have Z11 := Lib.hid (Z10.out.far GD.out (.bool bv) (.slice ov Lv.length cv))
  have VD11 := Lib.hid (VD10.out.put Wv.out ALvd.out)
  have VN11 := Lib.hid (VN10.out.far (gx := gd) (NE.out.symm) (.bool bv) (.slice ov Lv.length cv) ALxd.out)
  clear Z10 VD10 VN10
  obtain ⟨V11_, hV_⟩ : ∃ V, V = ((V10_.setCell ⟨gd, 0, none⟩ (.bool bv)).setCell ⟨gd, 1, none⟩ (.slice ov Lv.length cv)) := ⟨_, rfl⟩
  rw [← hV_] at Z11 VD11 VN11 ⊢
  clear hV_
  obtain ⟨d0, d1⟩ := And.intro VD11.out.box.c0 VD11.out.box.c1
  go_wp2_with fail
  refine (signWY_any bv ov cv Lv zr _ VD11.out.wh).mono ?_
  rintro e w12 ⟨rfl, b⟩
  clear d0 d1
  have Z12 := Lib.hid (Z11.out.to b)
  have VD12 := Lib.hid (VD11.out.to b)
  have VN12 := Lib.hid (VN11.out.to b)
  clear b Z11 VD11 VN11
  obtain ⟨c0, c1⟩ := And.intro VN12.out.box.c0 VN12.out.box.c1
  go_wp2_with fail
  refine (negWY_any bx ox cx Lx zx _ VN12.out.wh).mono ?_
  rintro e w13 ⟨⟨bm, Lm, rfl, h⟩, b⟩
  have Wm := Lib.hid h
  clear h c0 c1
  have Z13 := Lib.hid (Z12.out.to b)
  have VD13 := Lib.hid (VD12.out.to b)
  have VN13 := Lib.hid (VN12.out.to b)
  clear b Z12 VD12 VN12
  obtain ⟨y0, y1, y2, y3, y4, y5, y6⟩ := VN13.out.box.stores (.bool bm) (.slice ox Lm.length cx)
  go_upto_region 19 with fail
  clear y0 y1 y2 y3 y4 y5 y6
  have Z14 := Lib.hid (Z13.out.far GN.out (.bool bm) (.slice ox Lm.length cx))
  have VN14 := Lib.hid (VN13.out.put Wm.out ALxn.out)
  have VD14 := Lib.hid (VD13.out.far (gx := gn) (NE.out) (.bool bm) (.slice ox Lm.length cx) ALvn.out)
  clear Z13 VD13 VN13
  obtain ⟨V14_, hV_⟩ : ∃ V, V = ((w13.setCell ⟨gn, 0, none⟩ (.bool bm)).setCell ⟨gn, 1, none⟩ (.slice ox Lm.length cx)) := ⟨_, rfl⟩
  rw [← hV_] at Z14 VD14 VN14 ⊢
  clear hV_
  obtain ⟨c0, c1⟩ := And.intro VN14.out.box.c0 VN14.out.box.c1
  obtain ⟨d0, d1⟩ := And.intro VD14.out.box.c0 VD14.out.box.c1
  go_wp2_with fail
  refine (HMK.out bm ox cx Lm bv ov cv Lv _ (HS.out.below Z14.out.below) VN14.out.wh VD14.out.wh).mono ?_
  rintro e wz ⟨rfl, b⟩
  have ZZ := Z14.out.to b
  obtain ⟨y0, y1, y2, y3, y4, y5, y6⟩ := ZZ.res.stores (.string pa) (.string pb)
  have HBE := Lib.hid ((ZZ.below.setCell (p := ⟨w.heap.size, 0, none⟩) (Nat.le_refl _) (.string pa)).setCell (p := ⟨w.heap.size, 1, none⟩) (Nat.le_refl _) (.string pb))
  clear c0 c1 d0 d1 b ZZ
  go_wp2_with fail
  (try simp only [Exit.inBlock, Exit.then])
  refine bodyPost_ret (v := .tuple #[ratV pa pb, .int .i64 0]) ?_ rfl ⟨rfl, HBE.out⟩
  rw [results_cell_tmp rfl]
  go_simp
end Go.Proofs.YtdgbplppabalgaaGreatDoor

namespace Go.Proofs.YtdgbplppabalgaaGreatDoor
open Go.RowKit

set_option maxHeartbeats 1600000 in
set_option maxRecDepth 100000 in
theorem prR_long (s : ByteArray) (q0 : (400 : Int) < s.size) (w : World) :
    Calls Tryz.prog 31 #[.string s] w fun e w' => e = .returned (.tuple #[ratV ⟨#[]⟩ ⟨#[]⟩, .int .i64 16]) ∧ Below w.heap.size w w' := by
  go_enter Tryz.func31, Tryz.ntmps31
  go_upto_region 1 with fail
  have Z0 := Lib.hid (Bz.new w)
  obtain ⟨w0, hw0⟩ : ∃ w0, w0 = w.alloc (.cells #[.string ⟨#[]⟩, .string ⟨#[]⟩] 24) := ⟨_, rfl⟩
  rw [← hw0] at Z0 ⊢
  clear hw0
  obtain ⟨y0, y1, y2, y3, y4, y5, y6⟩ := Z0.out.res.stores (.string ⟨#[]⟩) (.string ⟨#[]⟩)
  have HBE := Lib.hid ((Z0.out.below.setCell (p := ⟨w.heap.size, 0, none⟩) (Nat.le_refl _) (.string ⟨#[]⟩)).setCell (p := ⟨w.heap.size, 1, none⟩) (Nat.le_refl _) (.string ⟨#[]⟩))
  go_wp2_with fail
  (try simp only [Exit.inBlock, Exit.then])
  refine bodyPost_ret (v := .tuple #[ratV ⟨#[]⟩ ⟨#[]⟩, .int .i64 16]) ?_ rfl ⟨rfl, HBE.out⟩
  rw [results_cell_tmp rfl]
  go_simp
/-- what Parse answers, for a text that is not too long -/
theorem parO_t {s : ByteArray} (h : ¬ 400 < s.size) {n d : Int} (hp : parT (negB s) (magB s).data.toList = some (n, d)) : parO s = (newS n d, newT n d, newE d) := by
  unfold parO; rw [if_neg h, hp]
theorem parO_n {s : ByteArray} (h : ¬ 400 < s.size) (hp : parT (negB s) (magB s).data.toList = none) : parO s = (⟨#[]⟩, ⟨#[]⟩, 15) := by
  unfold parO; rw [if_neg h, hp]
theorem mag_lt (s : ByteArray) : negB s = decide (((magB s).size : Int) < s.size) := by
  have h := mag_list s
  have e1 := size_list s
  have e2 := size_list (magB s)
  cases hn : negB s with
  | true =>
    rw [hn, if_pos rfl] at h
    have h0 : s.data.toList ≠ [] := by intro k; unfold negB at hn; rw [k] at hn; cases hn
    have h1 : 0 < s.data.toList.length := List.length_pos_iff.2 h0
    rw [h, List.length_drop] at e2
    exact (decide_eq_true (by omega)).symm
  | false =>
    rw [hn, if_neg (by decide)] at h
    rw [h] at e2
    exact (decide_eq_false (by omega)).symm
theorem val_ten (k : Nat) : val ((⟨#[49]⟩ : ByteArray) ++ ⟨(Lib.repeatL [48] k).toArray⟩).data.toList = 10 ^ k ∧ digL ((⟨#[49]⟩ : ByteArray) ++ ⟨(Lib.repeatL [48] k).toArray⟩).data.toList = true ∧ ((⟨#[49]⟩ : ByteArray) ++ ⟨(Lib.repeatL [48] k).toArray⟩).size = k + 1 ∧ (⟨(Lib.repeatL [48] k).toArray⟩ : ByteArray).size = k := by
  have e : Lib.repeatL [48] k = List.replicate k 48 := by
    have := Lib.repeatL_replicate 48 1 k
    rw [Nat.mul_one] at this; exact this
  have hv : ∀ n, val (List.replicate n (48 : UInt8)) = 0 := by
    intro n
    induction n with
    | zero => rfl
    | succ n ih => rw [List.replicate_succ, val_cons, ih]; simp
  have hl : (⟨(List.replicate k (48 : UInt8)).toArray⟩ : ByteArray).data.toList = List.replicate k 48 := rfl
  have hsz : (⟨(List.replicate k (48 : UInt8)).toArray⟩ : ByteArray).size = k := by rw [size_list, hl, List.length_replicate]
  rw [e, size_list ((⟨#[49]⟩ : ByteArray) ++ _), cat_list, hl]
  have h49 : (⟨#[49]⟩ : ByteArray).data.toList = [49] := rfl
  rw [h49]
  refine ⟨?_, ?_, ?_, hsz⟩
  · rw [val_append, hv, List.length_replicate]
    have : val [49] = 1 := by decide
    rw [this, Nat.one_mul, Nat.add_zero]
  · unfold digL
    have hall : (List.replicate k (48 : UInt8)).all isD = true := List.all_eq_true.2 (by intro x hx; rw [(List.mem_replicate.1 hx).2]; decide)
    rw [List.all_append, hall]
    rfl
  · rw [List.length_append, List.length_replicate]; show 1 + k = k + 1; omega
theorem sgI_nat (n : Nat) : (sgnI (n : Int) == 0) = decide (n = 0) := by
  have h := sgnI_ways (n : Int)
  by_cases h0 : n = 0
  · rw [decide_eq_true h0, beq_iff_eq]; omega
  · rw [decide_eq_false h0, beq_eq_false_iff_ne]; omega
theorem zS_new {n d : Int} (hd : d ≠ 0) : newS n d = zS (newN n d) ∧ newT n d = str (newD n d) ∧ newE d = 0 := by
  unfold newS newT newE
  rw [if_neg hd, if_neg hd, if_neg hd]; exact ⟨rfl, rfl, rfl⟩
theorem mkHMK (x y : Int) (hy : y ≠ 0) (hx : (str x.natAbs).size ≤ 20000) (hz : (str y.natAbs).size ≤ 20000) (b1 : Bool) (o1 : Option Addr) (c1 : Nat) (L1 : List Nat) (b2 : Bool) (o2 : Option Addr) (c2 : Nat) (L2 : List Nat) (wx : World) (hw : Std wx) (w1 : Wh wx b1 o1 c1 L1 x) (w2 : Wh wx b2 o2 c2 L2 y) :
    Calls Tryz.prog 24 #[whV b1 o1 c1 L1, whV b2 o2 c2 L2] wx fun e w' => e = .returned (ratV (newS x y) (newT x y)) ∧ Below wx.heap.size wx w' := by
  rw [(zS_new (n := x) hy).1, (zS_new (n := x) hy).2.1]
  exact makeY_any b1 o1 c1 L1 x b2 o2 c2 L2 y wx hw w1 w2 hy (w1.pcs.len_le (n := 20000) (by omega)) (w2.pcs.len_le (n := 20000) (by omega))
theorem prR_any (s : ByteArray) (w : World) (hs : Std w) (hsz : s.size ≤ 1000) :
    Calls Tryz.prog 31 #[.string s] w fun e w' => e = .returned (.tuple #[ratV (parO s).1 (parO s).2.1, .int .i64 (parO s).2.2]) ∧ Below w.heap.size w w' := by
  by_cases hl : 400 < s.size
  · rw [parO_over hl]; exact prR_long s (by omega) w
  have q0 : ¬ (400 : Int) < s.size := by omega
  have hml := mag_le s
  have hneg := mag_lt s
  have HTP := fun wx => trP s wx
  have HIA := fun wx => idxA_any (magB s) (by omega) wx
  have HOF := fun wx (hw : Std wx) => ofWY_any 1 wx hw (by decide) (by decide)
  have hO := fun (n d : Int) => parO_t (s := s) hl (n := n) (d := d)
  have hN := parO_n (s := s) hl
  obtain ⟨t, ht⟩ : ∃ t, t = magB s := ⟨_, rfl⟩
  rw [← ht] at HTP HIA hml hneg hN
  simp only [← ht] at hO
  clear ht
  have hD := fun wx => digY_any t wx (by omega)
  rcases any_ways t.data.toList with ⟨b, y, r', e, hb1, hb2, hy, hi⟩ | ⟨h1, h2, hi⟩
  · have hnd : isD y = false := by rcases hy with rfl | rfl <;> decide
    have hp := parT_sep (negB s) b r' y hnd
    rw [← e] at hp
    rw [hi] at HIA
    have hlen : b.length + (r'.length + 1) = t.size := by rw [size_list, e, List.length_append, List.length_cons]
    have hk : b.length < t.size := by omega
    have hfe : t.extract 0 b.length = ⟨b.toArray⟩ := (mk_eq (by rw [ext_list, e, List.take_left, List.drop_zero])).symm
    have hre : t.extract (b.length + 1) t.size = ⟨r'.toArray⟩ := (mk_eq (by
      rw [ext_list, List.take_of_length_le (by rw [len_list]; exact Nat.le_refl _), e]
      rw [show b ++ y :: r' = (b ++ [y]) ++ r' by simp]
      exact List.drop_left' (by simp))).symm
    have hyt : t[b.length]'hk = y := by
      have h3 := Lib.data_getElem? t b.length hk
      rw [e, List.getElem?_append_right (Nat.le_refl _), Nat.sub_self] at h3
      exact (Option.some.inj h3).symm
    obtain ⟨f, hf⟩ : ∃ f : ByteArray, f = ⟨b.toArray⟩ := ⟨_, rfl⟩
    obtain ⟨r, hr⟩ : ∃ f : ByteArray, f = ⟨r'.toArray⟩ := ⟨_, rfl⟩
    have hfl : f.data.toList = b := by rw [hf]
    have hrl : r.data.toList = r' := by rw [hr]
    rw [← hf] at hfe
    rw [← hr] at hre
    have hfs : f.size = b.length := by rw [size_list, hfl]
    have hrs : r.size = r'.length := by rw [size_list, hrl]
    have HD1 := fun wx => digY_any f wx (by omega)
    have HD2 := fun wx => digY_any r wx (by omega)
    rw [hfl] at HD1
    rw [hrl] at HD2
    cases hb : digL b with
    | false =>
      rw [hb] at HD1
      rw [hN (by rw [hp, if_neg (by rw [hb]; intro q; cases q.1)])]
      exact prR_slash_bad1 s t f r b.length w hs q0 hk (by omega) hfe hre HTP HIA HOF HD1
    | true =>
      rw [hb] at HD1
      cases hr2 : digL r' with
      | false =>
        rw [hr2] at HD2
        rw [hN (by rw [hp, if_neg (by rw [hr2]; intro q; cases q.2)])]
        exact prR_slash_bad2 s t f r b.length w hs q0 hk (by omega) hfe hre HTP HIA HOF HD1 HD2
      | true =>
        rw [hr2] at HD2
        rw [if_pos ⟨hb, hr2⟩] at hp
        have HNF := fun wx => numY_any f wx (by rw [hfl]; exact hb) (by omega)
        rw [hfl] at HNF
        have zb : (str (val b)).size ≤ 400 := val_size2 (digL_all hb) (by omega) (by decide)
        rcases hy with rfl | rfl
        · have HNR := fun wx => numY_any r wx (by rw [hrl]; exact hr2) (by omega)
          rw [hrl] at HNR
          rw [if_pos rfl] at hp
          rw [hO _ _ hp]
          have y47 : (((t[b.length]'hk).toNat : Int) == 47) = true := by rw [hyt]; rfl
          have y46 : (((t[b.length]'hk).toNat : Int) == 46) = false := by rw [hyt]; rfl
          have zr : (str (val r')).size ≤ 400 := val_size2 (digL_all hr2) (by omega) (by decide)
          by_cases h0 : val r' = 0
          · rw [h0]
            exact prR_slash_zero s t f r b.length _ _ w hs q0 hk (by omega) hfe hre y47 y46 (by rw [sgI_nat]; exact decide_eq_true h0) HTP HIA HOF HD1 HD2 HNF HNR
          · have hz := (sgI_nat (val r')).trans (decide_eq_false h0)
            have hd0 : ((val r' : Nat) : Int) ≠ 0 := by omega
            rw [(zS_new (n := sgN (negB s) (val b)) hd0).2.2]
            cases hn : negB s with
            | true =>
              rw [hn] at hneg
              exact prR_slash_neg s t f r _ _ b.length _ _ w hs q0 hk (by omega) hfe hre y47 y46 hz (of_decide_eq_true hneg.symm) HTP HIA HOF HD1 HD2 HNF HNR (mkHMK _ _ hd0 (by rw [Int.natAbs_neg, Int.natAbs_natCast]; omega) (by rw [Int.natAbs_natCast]; omega))
            | false =>
              rw [hn] at hneg
              exact prR_slash_pos s t f r _ _ b.length _ _ w hs q0 hk (by omega) hfe hre y47 y46 hz (of_decide_eq_false hneg.symm) HTP HIA HOF HD1 HD2 HNF HNR (mkHMK _ _ hd0 (by rw [Int.natAbs_natCast]; omega) (by rw [Int.natAbs_natCast]; omega))
        · obtain ⟨t1, t2, t3, t4⟩ := val_ten r.size
          have hcl : (f ++ r).data.toList = b ++ r' := by rw [cat_list, hfl, hrl]
          have hcs : (f ++ r).size = b.length + r'.length := by rw [size_list, hcl, List.length_append]
          have hcd : digL (b ++ r') = true := by
            have g1 := digL_all hb
            have g2 := digL_all hr2
            have g3 := digL_ne hb
            unfold digL
            rw [List.all_append, g1, g2]
            cases b with
            | nil => exact absurd rfl g3
            | cons a l => rfl
          have HNC := fun wx => numY_any (f ++ r) wx (by rw [hcl]; exact hcd) (by omega)
          rw [hcl] at HNC
          have HRP := fun wx => Tryz.strings_Repeat ⟨#[48]⟩ r.size wx (by omega) (by show 1 * r.size ≤ _; omega)
          have h48 : (⟨#[48]⟩ : ByteArray).data.toList = [48] := rfl
          rw [h48] at HRP
          obtain ⟨q, hq⟩ : ∃ q : ByteArray, q = ⟨(Lib.repeatL [48] r.size).toArray⟩ := ⟨_, rfl⟩
          rw [← hq] at HRP t1 t2 t3 t4
          have HNT := fun wx => numY_any (⟨#[49]⟩ ++ q) wx t2 (by omega)
          rw [t1] at HNT
          rw [if_neg (by decide), if_pos rfl, ← hrs] at hp
          rw [hO _ _ hp]
          have y47 : (((t[b.length]'hk).toNat : Int) == 47) = false := by rw [hyt]; rfl
          have y46 : (((t[b.length]'hk).toNat : Int) == 46) = true := by rw [hyt]; rfl
          have zc : (str (val (b ++ r'))).size ≤ 800 := val_size2 (digL_all hcd) (by rw [List.length_append]; omega) (by decide)
          have zt : (str (((10 ^ r.size : Nat) : Int)).natAbs).size ≤ 20000 := by
            have := val_size2 (digL_all t2) (k := 1000) (by rw [len_list]; omega) (by decide)
            rw [t1] at this
            rw [Int.natAbs_natCast]; omega
          have ht0 : 10 ^ r.size ≠ 0 := Nat.ne_of_gt (Nat.pow_pos (by decide))
          have hz := (sgI_nat (10 ^ r.size)).trans (decide_eq_false ht0)
          have hd0 : ((10 ^ r.size : Nat) : Int) ≠ 0 := by
            intro h; exact ht0 (Int.ofNat.inj h)
          have hc1 : f.size + r.size ≤ 9223372036854775807 := by omega
          have hc2 : (⟨#[49]⟩ : ByteArray).size + q.size ≤ 9223372036854775807 := by show 1 + q.size ≤ _; omega
          rw [(zS_new (n := sgN (negB s) (val (b ++ r'))) hd0).2.2]
          cases hn : negB s with
          | true =>
            rw [hn] at hneg
            exact prR_dot_neg s t f r q _ _ b.length _ _ _ w hs q0 hk (by omega) hfe hre hc1 hc2 y47 y46 hz (of_decide_eq_true hneg.symm) HTP HIA HOF HD1 HD2 HNF HNC HRP HNT (mkHMK _ _ hd0 (by rw [Int.natAbs_neg, Int.natAbs_natCast]; omega) zt)
          | false =>
            rw [hn] at hneg
            exact prR_dot_pos s t f r q _ _ b.length _ _ _ w hs q0 hk (by omega) hfe hre hc1 hc2 y47 y46 hz (of_decide_eq_false hneg.symm) HTP HIA HOF HD1 HD2 HNF HNC HRP HNT (mkHMK _ _ hd0 (by rw [Int.natAbs_natCast]; omega) zt)
  · have hp := parT_plain (negB s) t.data.toList h1 h2
    rw [hi] at HIA
    cases hd : digL t.data.toList with
    | false =>
      have HD1 := hD
      rw [hd] at HD1
      rw [hN (by rw [hp, if_neg (by rw [hd]; decide)])]
      exact prR_none_bad1 s t w hs q0 HTP HIA HOF HD1
    | true =>
      have HD1 := hD
      rw [hd] at HD1
      rw [if_pos hd] at hp
      rw [hO _ _ hp]
      have HNF := fun wx => numY_any t wx hd (by omega)
      have zb : (str (val t.data.toList)).size ≤ 400 := val_size2 (digL_all hd) (by rw [len_list]; omega) (by decide)
      have z1 : (str (1 : Int).natAbs).size ≤ 20000 := Nat.le_trans (str_big (n := 1) (by decide) (by decide)) (by decide)
      rw [(zS_new (n := sgN (negB s) (val t.data.toList)) (show (1 : Int) ≠ 0 by decide)).2.2]
      cases hn : negB s with
      | true =>
        rw [hn] at hneg
        exact prR_none_neg s t _ _ _ w hs q0 (by decide) (of_decide_eq_true hneg.symm) HTP HIA HOF HD1 HNF (mkHMK _ _ (by decide) (by rw [Int.natAbs_neg, Int.natAbs_natCast]; omega) z1)
      | false =>
        rw [hn] at hneg
        exact prR_none_pos s t _ _ _ w hs q0 (by decide) (of_decide_eq_false hneg.symm) HTP HIA HOF HD1 HNF (mkHMK _ _ (by decide) (by rw [Int.natAbs_natCast]; omega) z1)
end Go.Proofs.YtdgbplppabalgaaGreatDoor
