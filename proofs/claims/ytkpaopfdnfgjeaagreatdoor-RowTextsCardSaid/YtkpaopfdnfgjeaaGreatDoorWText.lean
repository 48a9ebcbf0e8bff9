/-
  Text of a row.
-/
import Derived.Test.YtkpaopfdnfgjeaaGreatDoorWNormal
import Derived.Lib.Join
import Derived.Lib.ItoaNum
import Derived.Lib.ItoaMem
import Derived.Lib.ItoaLen
import Derived.Lib.AppendIntMem
namespace Go.Proofs.YtkpaopfdnfgjeaaGreatDoor
open Go.RowKit Go.Sort

theorem var_below {P : Program} {w w' : World} {n : String} {cs : Array Value} (h : w.var? P n = some cs) (hb : Below w.heap.size w w') : w'.var? P n = some cs := by
  unfold World.var? at h ⊢
  cases hg : P.globalNamed n with
  | none => rw [hg] at h; cases h
  | some g =>
    rw [hg] at h
    simp only [Option.bind_some] at h ⊢
    have hlt : g < w.heap.size := by
      apply Nat.lt_of_not_le; intro hle
      rw [Array.getElem?_eq_none hle] at h; simp at h
    rw [hb.block g hlt]; exact h
/-- what the contracts ask of the world: the table of powers -/
def Std (w : World) : Prop := Lib.TabIs Tryz.prog w "internal/strconv.uint64pow10" .u64 Lib.pow10Tab
theorem Std.below {w w' : World} (h : Std w) (hb : Below w.heap.size w w') : Std w' := var_below h hb

/-- strings as cells -/
def cs (l : List ByteArray) : List Value := l.map fun s => Value.string s
theorem cs_len (l : List ByteArray) : (cs l).length = l.length := by simp [cs]
theorem cs_at (l : List ByteArray) (i : Nat) (h : i < l.length) : (cs l)[i]? = some (.string (l[i]'h)) := by simp [cs, h]
theorem cs_set (l : List ByteArray) (k : Nat) (s : ByteArray) : (cs l).set k (.string s) = cs (l.set k s) := by simp [cs, List.map_set]
theorem infoS : (Tryz.prog.info? 9).map (fun i => (i.zero, i.size, i.bytes)) = some (some (.string ⟨#[]⟩), 1, 16) := by kernel_rfl
def RowS (w : World) (B g cap : Nat) (l : List ByteArray) : Prop := w.ownsRow B 9 1 (.slice (some ⟨g, 0, none⟩) l.length cap) l.length (cs l)
theorem RowS.cell {w : World} {B g cap : Nat} {l : List ByteArray} (h : RowS w B g cap l) (i : Nat) (hi : i < l.length) : w.cell? ⟨g, i, none⟩ = some (.string (l[i]'hi)) := by
  rw [World.ownsRow.cellAt h i (by omega), cs_at l i hi]
theorem RowS.free {w : World} {B g cap : Nat} {l : List ByteArray} (h : RowS w B g cap l) (i : Nat) : w.frozen? ⟨g, i, none⟩ = false := World.ownsRow.frozenAt h i
theorem RowS.lt {w : World} {B g cap : Nat} {l : List ByteArray} (h : RowS w B g cap l) : B ≤ g ∧ g < w.heap.size := World.ownsRow.lt h g rfl
theorem RowS.below {w w' : World} {B g cap : Nat} {l : List ByteArray} (h : RowS w B g cap l) (hb : Below w.heap.size w w') : RowS w' B g cap l :=
  World.ownsRow.kept (row := none) h ⟨hb.os, hb.tape, hb.output, hb.size, fun j hj _ => hb.block j hj⟩ (.inr (by simp [Value.ownBlock]))
theorem RowS.set {w : World} {B g cap : Nat} {l : List ByteArray} (h : RowS w B g cap l) (k : Nat) (v : ByteArray) : RowS (w.setCell ⟨g, k, none⟩ (.string v)) B g cap (l.set k v) := by
  have h1 := (World.ownsRow.stored h k (.string v)).1
  rw [cs_set] at h1
  unfold RowS; rw [List.length_set]; exact h1
theorem RowS.made {w : World} {B g n : Nat} (h : w.ownsRow B 9 1 (.slice (some ⟨g, 0, none⟩) n n) n (madeCells (Value.string ⟨#[]⟩).cells (n * 1)).toList) : RowS w B g n (List.replicate n ⟨#[]⟩) := by
  have e1 : (List.replicate n (⟨#[]⟩ : ByteArray)).length = n := by simp
  have e2 : (madeCells (Value.string ⟨#[]⟩).cells (n * 1)).toList = cs (List.replicate n ⟨#[]⟩) := by
    rw [show (Value.string ⟨#[]⟩).cells = #[.string ⟨#[]⟩] from rfl, toList_madeCells_one, Nat.mul_one]; simp [cs]
  rw [e2] at h
  unfold RowS; rw [e1]; exact h

/-- the digits of an integer -/
def iS (z : Int) : ByteArray := ⟨(Lib.itoa z).toArray⟩
def partS (zs : List Int) (n k : Nat) : List ByteArray := (zs.take k).map iS ++ List.replicate (n - k) ⟨#[]⟩
theorem partS_len (zs : List Int) {n k : Nat} (hn : zs.length = n) (hk : k ≤ n) : (partS zs n k).length = n := by simp [partS]; omega
theorem partS_set (zs : List Int) {n k : Nat} (hn : zs.length = n) (hk : k < zs.length) : (partS zs n k).set k (iS zs[k]) = partS zs n (k + 1) := by
  unfold partS
  have e1 : ((zs.take k).map iS).length = k := by simp; omega
  rw [List.set_append_right _ _ (by omega), e1, Nat.sub_self]
  obtain ⟨m, hm⟩ : ∃ m, n - k = m + 1 := ⟨n - k - 1, by omega⟩
  rw [hm, List.replicate_succ, List.set_cons_zero, List.take_succ_eq_append_getElem hk, List.map_append, show n - (k + 1) = m by omega]
  simp
theorem partS_all (zs : List Int) {n : Nat} (hn : zs.length = n) : partS zs n n = zs.map iS := by
  unfold partS; rw [List.take_of_length_le (by omega)]; simp
theorem partS_zero (zs : List Int) (n : Nat) : partS zs n 0 = List.replicate n ⟨#[]⟩ := by simp [partS]

/-- the text of a row between its brackets -/
def midL (zs : List Int) : List UInt8 := Lib.join (zs.map Lib.itoa) [32]
def textS (zs : List Int) (ket : Bool) : ByteArray := if ket = true then ⟨#[91]⟩ ++ ⟨(midL zs).toArray⟩ ++ ⟨#[62]⟩ else ⟨#[60]⟩ ++ ⟨(midL zs).toArray⟩ ++ ⟨#[93]⟩
theorem itoa_len {z : Int} (h1 : -1000000000 ≤ z) (h2 : z ≤ 1000000000) : (Lib.itoa z).length ≤ 21 := by
  unfold Lib.itoa
  split
  · rw [List.length_cons, Lib.decDigits_length]
    have := Lib.nDigits_le20 z.natAbs (by omega)
    omega
  · rw [Lib.decDigits_length]
    have := Lib.nDigits_le20 z.toNat (by omega)
    omega
theorem tail_len {m : Nat} : ∀ (r : List (List UInt8)), (∀ x ∈ r, x.length ≤ m) → (Lib.joinTail [32] r).length ≤ r.length * (m + 1) := by
  intro r
  induction r with
  | nil => intro _; simp [Lib.joinTail]
  | cons x r ih =>
    intro h
    have h1 := ih (fun y hy => h y (by simp [hy]))
    have h2 := h x (by simp)
    have e : Lib.joinTail [32] (x :: r) = [32] ++ x ++ Lib.joinTail [32] r := by simp [Lib.joinTail]
    have e2 : (x :: r).length * (m + 1) = r.length * (m + 1) + (m + 1) := by rw [List.length_cons, Nat.add_mul, Nat.one_mul]
    rw [e, e2, List.length_append, List.length_append]
    simp
    omega
theorem join_len {m : Nat} (r : List (List UInt8)) (h : ∀ x ∈ r, x.length ≤ m) : (Lib.join r [32]).length ≤ r.length * (m + 1) := by
  cases r with
  | nil => simp [Lib.join_nil]
  | cons x r =>
    rw [Lib.join_cons, List.length_append, List.length_cons, Nat.add_mul]
    have h1 := tail_len r (fun y hy => h y (by simp [hy]))
    have h2 := h x (by simp)
    omega
theorem mid_len {zs : List Int} (ok : okB zs = true) : (midL zs).length ≤ 1408 := by
  unfold midL
  have h1 := join_len (m := 21) (zs.map Lib.itoa) (by
    intro x hx
    obtain ⟨z, hz, rfl⟩ := List.mem_map.1 hx
    have := okB_ent ok hz
    exact itoa_len this.1 this.2)
  have h2 := okB_len ok
  rw [List.length_map] at h1
  omega
theorem map_iS (zs : List Int) : (zs.map iS).map (·.data.toList) = zs.map Lib.itoa := by simp [iS, Function.comp_def]

set_option maxHeartbeats 400000 in
theorem textN_bad (a : Option Addr) (n cap : Nat) (zs : List Int) (ket : Bool) (w : World) (h : Rd w a n cap zs) (ok : okB zs = false) :
    Calls Tryz.prog 6 #[.slice a n cap, .bool ket] w fun e w' => e = .returned (.tuple #[.string ⟨#[]⟩, .int .i64 4]) ∧ w = w' := by
  have hcn := checkN_any a n cap zs w h
  rw [errR_no ok] at hcn
  have HC := Lib.hid hcn
  have hc := h.cap
  clear ok h hcn
  go_enter Tryz.func6, Tryz.ntmps6
  go_wp2_with fail
  refine HC.out.mono ?_
  rintro e w1 ⟨rfl, rfl⟩
  go_wp2_with fail
  go_ret2
  exact ⟨rfl, rfl⟩

theorem ret_s0 {a b : ByteArray} (h : a = b) : Ending.returned (.tuple #[.string a, .int .i64 0]) = Ending.returned (.tuple #[.string b, .int .i64 0]) := by rw [h]

set_option maxHeartbeats 1600000 in
set_option maxRecDepth 100000 in
theorem textN_any (a : Option Addr) (n cap : Nat) (zs : List Int) (ket : Bool) (w : World) (hs : Std w) (h : Rd w a n cap zs) (ok : okB zs = true) :
    Calls Tryz.prog 6 #[.slice a n cap, .bool ket] w fun e w' => e = .returned (.tuple #[.string (textS zs ket), .int .i64 0]) ∧ Below w.heap.size w w' := by
  have hcn := checkN_any a n cap zs w h
  rw [errR_ok ok] at hcn
  have HC := Lib.hid hcn
  have hc := h.cap
  have hl := h.len
  have h64 : n ≤ 64 := by rw [← hl]; exact okB_len ok
  obtain ⟨i0, hi, hz0, hz1, hz2⟩ := info_parts infoS
  have HS := Lib.hid hs
  rcases h.ways with ⟨rfl, rfl⟩ | ⟨b, off, rfl, hbw, hcell⟩
  · clear hcn h hl ok hs
    cases ket
    all_goals
      go_enter Tryz.func6, Tryz.ntmps6
      go_wp2_with fail
      refine HC.out.mono ?_
      rintro e w1 ⟨rfl, rfl⟩
      go_wp2_with (at_make; refine wpList_make_full _ rfl _ _ 41 rfl w.heap.size 9 i0 (.string ⟨#[]⟩) 1 Tryz.underlying41 hi hz0 hz1 .i64 .i64 _ _ 0 rfl rfl (by omega) (by omega) (by rw [hz2]; omega) (by unfold maxLen; omega) (Nat.le_refl _) ?_; intro w0 hown0 hgrow0)
      have hbel0 : Below w.heap.size w w0 := (Below.refl _ _).grown hgrow0 (Nat.le_refl _) (by intro k hk; cases hk)
      have HB0 := Lib.hid hbel0
      have HJ := Lib.hid (Tryz.strings_Join_none (some ⟨w.heap.size, 0, none⟩) 0 ⟨#[32]⟩ w0)
      clear hown0 hgrow0 hbel0
      go_wp2_with fail
      refine wp_loop_rounds 1 ?_
      rw [rounds_succ]
      go_wp2_with fail
      refine HJ.out.mono ?_
      rintro e w2 ⟨rfl, hw⟩
      obtain rfl := hw.symm
      clear hw
      go_wp2_with fail
      go_ret2
      exact ⟨ret_s0 (by decide), HB0.out⟩
  · have HX := Lib.hid hcell
    have HL := Lib.hid hl
    have HOK := Lib.hid ok
    have HML := Lib.hid (mid_len ok)
    clear hcn h hl ok hs hcell
    cases ket
    all_goals
      go_enter Tryz.func6, Tryz.ntmps6
      go_wp2_with fail
      refine HC.out.mono ?_
      rintro e w1 ⟨rfl, rfl⟩
      go_wp2_with (at_make; refine wpList_make_full _ rfl _ _ 41 rfl w.heap.size 9 i0 (.string ⟨#[]⟩) 1 Tryz.underlying41 hi hz0 hz1 .i64 .i64 _ _ n rfl rfl (by omega) (by omega) (by rw [hz2]; omega) (by unfold maxLen; omega) (Nat.le_refl _) ?_; intro w0 hown0 hgrow0)
      have hbel0 : Below w.heap.size w w0 := (Below.refl _ _).grown hgrow0 (Nat.le_refl _) (by intro k hk; cases hk)
      have HR0 := Lib.hid (RowS.made hown0)
      have HB0 := Lib.hid hbel0
      clear hown0 hgrow0 hbel0
      go_wp2_with fail
      go_loopw [8, 9, 21] (fun _ _ iv wr => ∃ i : Nat, iv = .int .i64 i ∧ i ≤ n ∧ RowS wr w.heap.size w.heap.size n (partS zs n i) ∧ Below w.heap.size w wr) (fun _ _ iv _ => n - (intOf iv).toNat)
      case atStart => exact ⟨0, rfl, Nat.zero_le _, by rw [partS_zero]; exact HR0.out, HB0.out⟩
      case round =>
        obtain ⟨i, rfl, hi2, hrow, hbel⟩ := hrel
        have HBL := Lib.hid hbel
        have HROW := Lib.hid hrow
        clear hbel hrow
        by_cases hlt : i < n
        · have hil : i < zs.length := by rw [HL.out]; exact hlt
          have hcl : wr.cell? ⟨b, off + i, none⟩ = some (.int .i64 (zs[i]'hil)) := (HBL.out.cell (p := ⟨b, off + i, none⟩) hbw).trans (HX.out i hil)
          have hze := okB_at HOK.out i hil
          obtain ⟨z, hz⟩ : ∃ z, z = zs[i] := ⟨_, rfl⟩
          rw [← hz] at hcl hze
          have HZ := Lib.hid hz
          have HIT := Lib.hid (Tryz.strconv_Itoa z (by omega) (by omega) wr (HS.out.below HBL.out))
          clear hz
          go_wp2_with fail
          refine HIT.out.mono ?_
          rintro e w3 ⟨rfl, k3, os3, hw3⟩
          have hb3 : Below wr.heap.size wr w3 := by rw [hw3]; exact Lib.below_grow _ _ (Nat.le_refl _) _ _
          have hpl := partS_len zs HL.out hi2
          have hr3 := HROW.out.below hb3
          have hset := hr3.set i (iS z)
          rw [HZ.out, partS_set zs HL.out hil, ← HZ.out] at hset
          have hcl2 := hr3.cell i (by omega)
          obtain ⟨old, hold⟩ : ∃ old, old = (partS zs n i)[i]'(by omega) := ⟨_, rfl⟩
          rw [← hold] at hcl2
          have hfr := hr3.free i
          have HSET := Lib.hid hset
          have HB2 := Lib.hid ((HBL.out.trans (hb3.mono HBL.out.size)).setCell (p := ⟨w.heap.size, i, none⟩) (Nat.le_refl _) (.string (iS z)))
          clear hw3 hb3 hpl hr3 hset hold HIT
          go_wp2_with fail
          go_roundw
          case rel => exact ⟨i + 1, by go_num, by omega, HSET.out, HB2.out⟩
          case measure => simp [intOf]; omega
        · obtain rfl : i = n := by omega
          have hrow := HROW.out
          rw [partS_all _ HL.out] at hrow
          have hml : (zs.map iS).length = i := by rw [List.length_map]; exact HL.out
          have hj := Tryz.strings_Join w.heap.size 0 i (zs.map iS) ⟨#[32]⟩ wr (fun j x hx => by
            obtain ⟨hj, e⟩ := List.getElem?_eq_some_iff.1 hx
            rw [Nat.zero_add, hrow.cell j hj, e]) hrow.lt.2 (by omega) (by omega) (by rw [map_iS]; have := HML.out; unfold midL at this; show (Lib.join _ [32]).length ≤ _; omega)
          rw [hml, map_iS] at hj
          obtain ⟨T, hT⟩ : ∃ T : ByteArray, T = ⟨(Lib.join (zs.map Lib.itoa) [32]).toArray⟩ := ⟨_, rfl⟩
          have hTs : T.size ≤ 1408 := by rw [hT]; have := HML.out; unfold midL at this; show (Lib.join (zs.map Lib.itoa) [32]).toArray.size ≤ _; simpa using this
          have hj' : Calls Tryz.prog 17 #[.slice (some ⟨w.heap.size, 0, none⟩) i i, .string ⟨#[32]⟩] wr fun e w' => e = .returned (.string T) ∧ Below wr.heap.size wr w' := by rw [hT]; exact hj
          have HT := Lib.hid hT
          have HJ := Lib.hid hj'
          clear hrow hml hj hj' hT
          go_wp2_with fail
          refine HJ.out.mono ?_
          rintro e w3 ⟨rfl, h3⟩
          have HB3 := Lib.hid (HBL.out.trans (h3.mono HBL.out.size))
          clear h3
          go_wp2_with fail
          go_ret2
          exact ⟨ret_s0 (by unfold textS midL; rw [HT.out]; rfl), HB3.out⟩
end Go.Proofs.YtkpaopfdnfgjeaaGreatDoor
