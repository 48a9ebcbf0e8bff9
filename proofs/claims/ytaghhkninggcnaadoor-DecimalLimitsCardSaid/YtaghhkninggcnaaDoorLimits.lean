/-
  The walk of the law DecimalLimits.
-/
import Derived.Test.YtaghhkninggcnaaDoorForms
import Derived.OpenShut
namespace Go.Proofs.YtaghhkninggcnaaDoor
open Go.RowKit

def nines (i n : Nat) : List UInt8 := List.replicate i 57 ++ List.replicate (n - i) 0
theorem nines_len {i n : Nat} (h : i ≤ n) : (nines i n).length = n := by simp [nines]; omega
theorem nines_set {i n : Nat} (h : i < n) : (nines i n).set i 57 = nines (i + 1) n := by
  unfold nines
  rw [List.set_append_right _ _ (by simp), List.length_replicate, Nat.sub_self, show n - i = n - (i + 1) + 1 by omega, List.replicate_succ, List.set_cons_zero, List.replicate_succ', List.append_assoc]
  rfl
theorem nines_all (n : Nat) : nines n n = List.replicate n 57 := by simp [nines]
def ninesS (n : Nat) : ByteArray := ⟨(List.replicate n 57).toArray⟩
theorem ninesS_list (n : Nat) : (ninesS n).data.toList = List.replicate n 57 := rfl
theorem ninesS_size (n : Nat) : (ninesS n).size = n := by
  have := len_list (ninesS n); rw [ninesS_list, List.length_replicate] at this; exact this.symm
theorem ninesS_canon {n : Nat} (h : 0 < n) : canonL (ninesS n).data.toList = true := by
  obtain ⟨m, rfl⟩ : ∃ m, n = m + 1 := ⟨n - 1, by omega⟩
  rw [ninesS_list]
  have ha : (List.replicate (m + 1) (57 : UInt8)).all isD = true := by
    rw [List.all_eq_true]; intro x hx; rw [List.mem_replicate] at hx; rw [hx.2]; decide
  unfold canonL headOk
  rw [ha, List.replicate_succ]; simp
theorem zero_nines {n : Nat} (h : 0 < n) : canonL ((⟨#[48]⟩ : ByteArray) ++ ninesS n).data.toList = false := by
  obtain ⟨m, rfl⟩ : ∃ m, n = m + 1 := ⟨n - 1, by omega⟩
  have e : ((⟨#[48]⟩ : ByteArray) ++ ninesS (m + 1)).data.toList = 48 :: List.replicate (m + 1) 57 := by
    simp [ByteArray.data_append, ninesS]
  rw [e]; unfold canonL headOk
  simp [List.replicate_succ]

set_option maxHeartbeats 400000 in
theorem digits_any (s : ByteArray) (w : World) (_hs : s.size ≤ 9223372036854775807) :
    Calls Tryd.prog 17 #[.string s] w fun e w' => e = .returned (.int .i64 s.size) ∧ w = w' := by
  go_enter Tryd.func17, Tryd.ntmps17
  go_wp2
  go_ret
  exact ⟨rfl, rfl⟩

set_option maxHeartbeats 3200000 in
set_option maxRecDepth 100000 in
theorem limits_walk (more : Int) (w : World) (hs : Std w) (h0 : 0 ≤ more) (h1 : more ≤ 255) :
    Calls Tryd.prog 4 #[.int .u8 more] w fun e w' => e = .returned (.bool true) ∧ Below w.heap.size w w' := by
  obtain ⟨i0, hi, hz0, hz1, hz2⟩ := info_parts info8
  obtain ⟨n, hn⟩ : ∃ n : Nat, (n : Int) = 395 + more % 11 := ⟨(395 + more % 11).toNat, by omega⟩
  have hn1 : 395 ≤ n := by omega
  have hn2 : n ≤ 405 := by omega
  have HN := Lib.hid hn
  have HS := Lib.hid hs
  have HCAN := Lib.hid (ninesS_canon (n := n) (by omega))
  have HZ := Lib.hid (fun wx => check_no ((⟨#[48]⟩ : ByteArray) ++ ninesS n) wx (.inr (zero_nines (by omega))))
  have HSZ := Lib.hid (ninesS_size n)
  clear hs hn
  go_enter Tryd.func4, Tryd.ntmps4
  go_wp2_with fail
  refine (known_any _ HS.out).mono ?_
  rintro e w1 ⟨rfl, hb1⟩
  have s1 := hb1.size
  have HB1 := Lib.hid hb1
  clear hb1
  go_wp2_with (at_make; refine wpList_make_full _ rfl _ _ 28 rfl w1.heap.size 5 i0 (.int .u8 0) 1 Tryd.underlying28 hi hz0 hz1 .i64 .i64 _ _ n rfl rfl HN.out.symm HN.out.symm (by rw [hz2]; omega) (by unfold maxLen; omega) (Nat.le_refl _) ?_; intro w2 hown hgrow)
  have hbel : Below w1.heap.size w1 w2 := (Below.refl _ _).grown hgrow (Nat.le_refl _) (by intro k hk; cases hk)
  have hrow : RowB w2 w1.heap.size w1.heap.size n n (nines 0 n) := by
    refine ⟨nines_len (Nat.zero_le _), ?_⟩
    have e : c8 (nines 0 n) = (madeCells (Value.int .u8 0).cells (n * 1)).toList := by
      rw [show (Value.int .u8 0).cells = #[.int .u8 0] from rfl, toList_madeCells_one, Nat.mul_one]; simp [c8, nines]
    rw [e]; exact hown
  clear hown hgrow
  rw [← HN.out]
  go_wp2_with fail
  go_loopw [5] (fun iv wr => ∃ k : Nat, iv = .int .i64 k ∧ k ≤ n ∧ RowB wr w1.heap.size w1.heap.size n n (nines k n) ∧ Below w1.heap.size w1 wr) (fun iv _ => n - (intOf iv).toNat)
  case atStart => exact ⟨0, rfl, Nat.zero_le _, hrow, hbel⟩
  case round =>
    obtain ⟨k, rfl, hk, hrow, hbel⟩ := hrel
    by_cases hlt : k < n
    · obtain ⟨c0, hc0⟩ : ∃ c0 : Int, wr.cell? ⟨w1.heap.size, k, none⟩ = some (.int .u8 c0) := ⟨_, hrow.cell k (by rw [nines_len hk]; exact hlt)⟩
      have hf0 := hrow.free k
      have HR := Lib.hid hrow
      have HB := Lib.hid hbel
      clear hrow hbel
      go_wp2_with fail
      all_goals go_roundw
      case rel =>
        have e := HR.out.set k 57
        rw [nines_set hlt] at e
        exact ⟨k + 1, by go_num, by omega, e, HB.out.setCell (Nat.le_refl _) _⟩
      case measure => simp [intOf] <;> omega
    · obtain rfl : k = n := by omega
      have hcv := run_convert_bytes_back (P := Tryd.prog) wr 28 23 5 ⟨w1.heap.size, 0, none⟩ k (List.replicate k 57) Tryd.underlying28 Tryd.underlying5 Tryd.underlying23 (fun j hj => by
        have hr := hrow
        rw [nines_all] at hr
        rw [Lib.add_plain, Nat.zero_add, hr.cell j hj])
      rw [List.length_replicate] at hcv
      have hcv' : (convert 28 23 (.slice (some ⟨w1.heap.size, 0, none⟩) k k)).run Tryd.prog wr = .ok (.string (ninesS k)) wr := hcv
      have HB := Lib.hid (HB1.out.trans (hbel.mono s1))
      have hsz1 := HSZ.out
      have hsz : ((ninesS k).size : Int) = (k : Int) := by rw [hsz1]
      have hsz2 : ((ninesS k).size : Int) ≤ 405 := by omega
      have HD := Lib.hid (fun wx => canonical_any (ninesS k) wx (by omega))
      rw [HCAN.out] at HD
      have HDG := Lib.hid (fun wx => digits_any (ninesS k) wx (by omega))
      rw [hsz1] at HDG
      by_cases h400 : k ≤ 400
      · have HC := Lib.hid (fun wx => check_yes (ninesS k) wx (by omega) HCAN.out)
        clear hcv hrow hbel HSZ HCAN hsz1 hsz
        go_wp2_with fail
        refine (HDG.out _).mono ?_
        rintro e w3 ⟨rfl, rfl⟩
        go_wp2_with fail
        refine (HD.out _).mono ?_
        rintro e w3 ⟨rfl, rfl⟩
        go_wp2_with fail
        refine (HZ.out _).mono ?_
        rintro e w3 ⟨rfl, rfl⟩
        go_wp2_with fail
        refine (HC.out _).mono ?_
        rintro e w3 ⟨rfl, rfl⟩
        go_wp2_with fail
        go_ret
        exact ⟨rfl, HB.out⟩
      · have HC := Lib.hid (fun wx => check_no (ninesS k) wx (.inl (by omega)))
        clear hcv hrow hbel HSZ HCAN hsz1 hsz
        go_wp2_with fail
        refine (HDG.out _).mono ?_
        rintro e w3 ⟨rfl, rfl⟩
        go_wp2_with fail
        refine (HD.out _).mono ?_
        rintro e w3 ⟨rfl, rfl⟩
        go_wp2_with fail
        refine (HZ.out _).mono ?_
        rintro e w3 ⟨rfl, rfl⟩
        go_wp2_with fail
        refine (HC.out _).mono ?_
        rintro e w3 ⟨rfl, rfl⟩
        go_wp2_with fail
        go_ret
        exact ⟨rfl, HB.out⟩

theorem limits_law (more : Int) (w : World) (hs : Std w) (hw : (Lit.int .u8 more).wf = true) :
    Calls Tryd.prog 4 #[.int .u8 more] w fun e w' => e = .returned (.bool true) ∧ Below w.heap.size w w' :=
  limits_walk more w hs (bounds_u8 hw).1 (bounds_u8 hw).2
end Go.Proofs.YtaghhkninggcnaaDoor
