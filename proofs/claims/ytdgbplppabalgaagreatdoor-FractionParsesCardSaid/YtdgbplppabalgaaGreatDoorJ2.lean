/-
  Texts of one seat, joined: Row Cut Join Short Mul.
-/
import Derived.Test.YtdgbplppabalgaaGreatDoorJ1
import Derived.OwnWalk
import Derived.Laws.OwnMore
import Derived.OneCell
import Derived.Deep.Draws
import Derived.WalkSmall
namespace Go.Proofs.YtdgbplppabalgaaGreatDoor
open Go.RowKit

/-- numbers as cells -/
def c64 (l : List Nat) : List Value := l.map fun n : Nat => Value.int .u64 (n : Int)
theorem c64_len (l : List Nat) : (c64 l).length = l.length := by simp [c64]
theorem c64_at (l : List Nat) (i : Nat) (h : i < l.length) : (c64 l)[i]? = some (.int .u64 ((l[i]'h : Nat) : Int)) := by simp [c64, h]
theorem c64_take (l : List Nat) (k : Nat) : (c64 l).take k = c64 (l.take k) := by simp [c64, List.map_take]
theorem c64_append (l m : List Nat) : c64 (l ++ m) = c64 l ++ c64 m := by simp [c64]
theorem c64_set (l : List Nat) (k v : Nat) : (c64 l).set k (.int .u64 (v : Int)) = c64 (l.set k v) := by simp [c64, List.map_set]

/-- block g, from B on, is a row of the call's own that holds l, with room for cap -/
def Row (w : World) (B g cap : Nat) (l : List Nat) : Prop := w.ownsRow B 135 1 (.slice (some ⟨g, 0, none⟩) l.length cap) l.length (c64 l)
theorem Row.cell {w : World} {B g cap : Nat} {l : List Nat} (h : Row w B g cap l) (i : Nat) (hi : i < l.length) : w.cell? ⟨g, i, none⟩ = some (.int .u64 ((l[i]'hi : Nat) : Int)) := by
  rw [World.ownsRow.cellAt h i (by omega), c64_at l i hi]
theorem Row.free {w : World} {B g cap : Nat} {l : List Nat} (h : Row w B g cap l) (i : Nat) : w.frozen? ⟨g, i, none⟩ = false := World.ownsRow.frozenAt h i
theorem Row.below {w w' : World} {B g cap : Nat} {l : List Nat} (h : Row w B g cap l) (hb : Below w.heap.size w w') : Row w' B g cap l :=
  World.ownsRow.kept (row := none) h ⟨hb.os, hb.tape, hb.output, hb.size, fun j hj _ => hb.block j hj⟩ (.inr (by simp [Value.ownBlock]))
theorem Row.lt {w : World} {B g cap : Nat} {l : List Nat} (h : Row w B g cap l) : B ≤ g ∧ g < w.heap.size := World.ownsRow.lt h g rfl
theorem Row.mono {w : World} {B B' g cap : Nat} {l : List Nat} (h : Row w B g cap l) (hB : B' ≤ B) : Row w B' g cap l := by
  obtain ⟨h1, h2⟩ := h
  refine ⟨h1, ?_⟩
  rcases h2 with h2 | ⟨g', cap', cur, e, hg, r⟩
  · exact .inl h2
  · exact .inr ⟨g', cap', cur, e, by omega, r⟩
theorem Row.len_cap {w : World} {B g cap : Nat} {l : List Nat} (h : Row w B g cap l) : l.length ≤ cap ∧ cap ≤ maxLen := by
  rcases h.2 with ⟨h0, _⟩ | ⟨g', cap', cur, e, hg, hh, h1, h2, _⟩
  · cases h0
  · cases e; exact ⟨h1, h2⟩
theorem Row.take {w : World} {B g cap : Nat} {l : List Nat} (h : Row w B g cap l) (k : Nat) (hk : k ≤ l.length) : Row w B g cap (l.take k) := by
  have e : (l.take k).length = k := by rw [List.length_take]; omega
  obtain ⟨h1, h2⟩ := h
  rcases h2 with ⟨h0, _⟩ | ⟨g', cap', cur, e', hg, hh, hn, hcap, hsz, htake⟩
  · cases h0
  · cases e'
    refine ⟨by rw [c64_len, e]; omega, .inr ⟨g, cap, cur, by rw [e], hg, hh, by omega, hcap, hsz, ?_⟩⟩
    rw [e, ← c64_take, ← htake, List.take_take, Nat.mul_one, Nat.mul_one, Nat.min_eq_left (by omega)]
theorem Row.set {w : World} {B g cap : Nat} {l : List Nat} (h : Row w B g cap l) (k v : Nat) : Row (w.setCell ⟨g, k, none⟩ (.int .u64 (v : Int))) B g cap (l.set k v) := by
  have h1 := (World.ownsRow.stored h k (.int .u64 (v : Int))).1
  rw [c64_set] at h1
  unfold Row; rw [List.length_set]; exact h1
theorem Row.drew {w : World} {B g cap : Nat} {l : List Nat} (h : Row w B g cap l) : Row w.drew B g cap l := h
theorem Row.alloc {w : World} {B g cap : Nat} {l : List Nat} (h : Row w B g cap l) (o : Obj) : Row (w.alloc o) B g cap l := World.ownsRow.alloc h o

theorem ret_int2 {k : IntKind} {a b : Nat} {v : Value} (h : a = b) : Ending.returned (.tuple #[.int k a, v]) = Ending.returned (.tuple #[.int k b, v]) := by rw [h]
theorem ret_slice {g cap n m : Nat} (h : n = m) : Ending.returned (.slice (some ⟨g, 0, none⟩) n cap) = Ending.returned (.slice (some ⟨g, 0, none⟩) m cap) := by rw [h]
theorem trimP_take {l : List Nat} {j : Nat} (hj : j < l.length) (h0 : l[j] = 0) : trimP (l.take (j + 1)) = trimP (l.take j) := by
  rw [List.take_succ_eq_append_getElem hj, h0, trimP_snoc0]
theorem trimP_take' {l : List Nat} {j : Nat} (hj : j < l.length) (h0 : l[j] ≠ 0) : trimP (l.take (j + 1)) = l.take (j + 1) := by
  rw [List.take_succ_eq_append_getElem hj, trimP_snoc h0]

set_option maxHeartbeats 800000 in
theorem value_any (s : ByteArray) (w : World) (hs : s.size ≤ 9) (hd : s.data.toList.all isD = true) :
    Calls Tryz.prog 205 #[.string s] w fun e w' => e = .returned (.tuple #[.int .u64 (val s.data.toList), .bool true]) ∧ w = w' := by
  have HD : ∀ k (h : k < s.size), isD (s[k]'h) = true := fun k h => by
    rw [← at_list s k h]; exact List.all_eq_true.1 hd _ (List.getElem_mem _)
  have HB : ∀ k, val (s.data.toList.take k) < 10 ^ k := fun k => by
    have h1 := val_lt (s.data.toList.take k) (List.all_eq_true.2 fun x hx => List.all_eq_true.1 hd x (List.mem_of_mem_take hx))
    have h2 : 10 ^ (s.data.toList.take k).length ≤ 10 ^ k := Nat.pow_le_pow_right (by decide) (by rw [List.length_take]; omega)
    omega
  have HD' := Lib.hid HD
  have HB' := Lib.hid HB
  clear HD HB hd
  go_enter Tryz.func205, Tryz.ntmps205
  go_wp2
  go_loop [4, 5, 8] (fun n _ i => ∃ k v : Nat, k ≤ s.size ∧ i = .int .i64 k ∧ n = .int .u64 v ∧ Hid (v = val (s.data.toList.take k))) (fun _ _ i => s.size - (intOf i).toNat)
  case atStart => exact ⟨0, 0, Nat.zero_le _, rfl, rfl, rfl⟩
  case round =>
    obtain ⟨k, v, hk, rfl, rfl, HV⟩ := hrel
    by_cases hlt : k < s.size
    · have h1 := isD_lt (HD'.out k hlt)
      have h2 := HB'.out k
      have h3 : 10 ^ k ≤ 10 ^ 8 := Nat.pow_le_pow_right (by decide) (by omega)
      have hv0 := HV.out
      have g0 : v < 100000000 := by rw [hv0]; omega
      have g1 : 48 ≤ (s[k].toNat : Int) := by omega
      have g2 : (s[k].toNat : Int) ≤ 57 := by omega
      have HT := Lib.hid (take_val s k hlt)
      clear h1 h2 h3 hv0
      go_wp2
      all_goals go_round
      case rel => exact ⟨k + 1, 10 * v + (s[k].toNat - 48), by omega, by go_num, by go_num, by show _ = _; rw [HT.out, HV.out]⟩
      case measure => simp [intOf]; omega
    · go_wp2
      go_ret2
      exact ⟨ret_int2 (by rw [HV.out, take_all_len s k (by omega)]), rfl⟩

set_option maxHeartbeats 800000 in
theorem trim_any (B g cap : Nat) (l : List Nat) (w : World) (h : Row w B g cap l) :
    Calls Tryz.prog 189 #[.slice (some ⟨g, 0, none⟩) l.length cap] w fun e w' => e = .returned (.slice (some ⟨g, 0, none⟩) (trimP l).length cap) ∧ w = w' := by
  have hlc := h.len_cap
  unfold maxLen at hlc
  have HR := Lib.hid h
  have HP := Lib.hid (trimP_props l).2.2.2.2
  have HL := Lib.hid (trimP_props l).2.2.2.1
  clear h
  go_enter Tryz.func189, Tryz.ntmps189
  go_wp2
  go_loop [0] (fun v => ∃ k : Nat, k ≤ l.length ∧ v = .slice (some ⟨g, 0, none⟩) k cap ∧ Hid (trimP (l.take k) = trimP l)) (fun v => match v with | .slice _ n _ => n | _ => 0)
  case atStart => exact ⟨l.length, Nat.le_refl _, rfl, by show _ = _; rw [List.take_length]⟩
  case round =>
    obtain ⟨k, hk, rfl, HT⟩ := hrel
    by_cases hk0 : k = 0
    · subst hk0
      go_wp2
      go_ret
      exact ⟨ret_slice (by rw [← HT.out]; rfl), rfl⟩
    · obtain ⟨j, rfl⟩ : ∃ j, k = j + 1 := ⟨k - 1, by omega⟩
      have hj : j < l.length := by omega
      have hcell := HR.out.cell j hj
      by_cases h0 : l[j] = 0
      · have HT2 := Lib.hid (trimP_take hj h0)
        rw [h0] at hcell
        clear h0
        go_wp2
        all_goals go_round
        case rel => exact ⟨j, by omega, rfl, by show _ = _; rw [← HT2.out]; exact HT.out⟩
        case measure => simp
      · have HT2 := Lib.hid (trimP_take' hj h0)
        have hb : (((l[j] : Nat) : Int) == 0) = false := by rw [beq_eq_false_iff_ne]; omega
        have hpos : 0 < l[j] := by omega
        clear h0
        go_wp2
        go_ret
        exact ⟨ret_slice (by rw [← HT.out, HT2.out, List.length_take]; omega), rfl⟩
end Go.Proofs.YtdgbplppabalgaaGreatDoor

namespace Go.Proofs.YtdgbplppabalgaaGreatDoor
open Go.RowKit

theorem len2 (l : List Nat) (h : l.length ≤ 2) : l = [] ∨ (∃ x, l = [x]) ∨ ∃ x y, l = [x, y] := by
  match l, h with
  | [], _ => exact .inl rfl
  | [x], _ => exact .inr (.inl ⟨x, rfl⟩)
  | [x, y], _ => exact .inr (.inr ⟨x, y, rfl⟩)
theorem ret_val2 {a b : Value} {v : Value} (h : a = b) : Ending.returned (.tuple #[a, v]) = Ending.returned (.tuple #[b, v]) := by rw [h]

set_option maxHeartbeats 800000 in
theorem short_yes (B g cap : Nat) (l : List Nat) (w : World) (h : Row w B g cap l) (hl : l.length ≤ 2) (h9 : lt9 l) :
    Calls Tryz.prog 186 #[.slice (some ⟨g, 0, none⟩) l.length cap] w fun e w' => e = .returned (.tuple #[.int .u64 (pv l), .bool true]) ∧ Below w.heap.size w w' := by
  have hlc := h.len_cap
  unfold maxLen at hlc
  rcases len2 l hl with rfl | ⟨x, rfl⟩ | ⟨x, y, rfl⟩
  · clear h
    go_enter Tryz.func186, Tryz.ntmps186
    go_wp2
    go_ret2
    exact ⟨rfl, Below.refl _ _⟩
  · have hc : w.cell? ⟨g, 0, none⟩ = some (.int .u64 (x : Int)) := h.cell 0 (by simp)
    clear h
    go_enter Tryz.func186, Tryz.ntmps186
    go_wp2
    go_ret2
    exact ⟨ret_val2 (by simp [pv]), Below.refl _ _⟩
  · have hc : w.cell? ⟨g, 0, none⟩ = some (.int .u64 (x : Int)) := h.cell 0 (by simp)
    have hc1 : w.cell? ⟨g, 1, none⟩ = some (.int .u64 (y : Int)) := h.cell 1 (by simp)
    have k0 : x < 1000000000 := h9 x (by simp)
    have k1 : y < 1000000000 := h9 y (by simp)
    simp only [List.length_cons, List.length_nil] at hlc
    clear h h9 hl
    go_enter Tryz.func186, Tryz.ntmps186
    go_wp2
    go_quiet (fail)
    go_wp2
    go_ret2
    refine ⟨ret_val2 (by simp [pv]; omega), below_drewN (Below.refl _ _) _⟩
set_option maxHeartbeats 800000 in
theorem short_no (B g cap : Nat) (l : List Nat) (w : World) (h : Row w B g cap l) (hl : 2 < l.length) :
    Calls Tryz.prog 186 #[.slice (some ⟨g, 0, none⟩) l.length cap] w fun e w' => e = .returned (.tuple #[.int .u64 0, .bool false]) ∧ w = w' := by
  have hlc := h.len_cap
  unfold maxLen at hlc
  have b0 : ((l.length : Int) == 0) = false := by rw [beq_eq_false_iff_ne]; omega
  have b1 : ((l.length : Int) == 1) = false := by rw [beq_eq_false_iff_ne]; omega
  have b2 : ((l.length : Int) == 2) = false := by rw [beq_eq_false_iff_ne]; omega
  clear h
  go_enter Tryz.func186, Tryz.ntmps186
  go_wp2
  go_ret2
  exact ⟨rfl, rfl⟩

theorem own_some {w : World} {B : Nat} {e : TypeId} {v : Value} {n : Nat} {xs : List Value} (h : w.ownsRow B e 1 v n xs) (hn : 0 < n) : ∃ g cap, v = .slice (some ⟨g, 0, none⟩) n cap := by
  rcases h.2 with ⟨_, h0⟩ | ⟨g, cap, cur, hv, _⟩
  · omega
  · exact ⟨g, cap, hv⟩
theorem Row.of {w : World} {B g cap n : Nat} {l : List Nat} {xs : List Value} (h : w.ownsRow B 135 1 (.slice (some ⟨g, 0, none⟩) n cap) n xs) (hl : l.length = n) (hx : xs = c64 l) : Row w B g cap l := by
  unfold Row; rw [hl, ← hx]; exact h
theorem all_sub {l : List UInt8} (h : l.all isD = true) (a e : Nat) : ((l.take e).drop a).all isD = true :=
  List.all_eq_true.2 fun x hx => List.all_eq_true.1 h x (List.mem_of_mem_take (List.mem_of_mem_drop hx))
theorem info64 : (Tryz.prog.info? 135).map (fun i => (i.zero, i.size, i.bytes)) = some (some (.int .u64 0), 1, 8) := by kernel_rfl
theorem ext_list (s : ByteArray) (a e : Nat) : (s.extract a e).data.toList = (s.data.toList.take e).drop a := by rw [Lib.extract_data, List.drop_take]

set_option maxHeartbeats 1600000 in
set_option maxRecDepth 100000 in
theorem cut_any (s : ByteArray) (w : World) (hs : s.size ≤ 1000000) (hc : canonL s.data.toList = true) :
    Calls Tryz.prog 184 #[.string s] w fun e w' => ∃ (g cap : Nat) (p : List Nat), e = .returned (.tuple #[.slice (some ⟨g, 0, none⟩) p.length cap, .bool true]) ∧ Pcs p (val s.data.toList) ∧ Row w' w.heap.size g cap p ∧ Below w.heap.size w w' := by
  obtain ⟨i0, hi, hz0, hz1, hz2⟩ := info_parts info64
  have hb : headOk s.data.toList = true := by unfold canonL at hc; simp only [Bool.and_eq_true] at hc; exact hc.1
  have ha : s.data.toList.all isD = true := by unfold canonL at hc; simp only [Bool.and_eq_true] at hc; exact hc.2
  have HB := Lib.hid hb
  have HA := Lib.hid ha
  clear hb ha hc
  go_enter Tryz.func184, Tryz.ntmps184
  go_wp2_with (first
    | (go_at_call 182; refine (begins_any _ _).mono ?_; rintro e w' ⟨rfl, rfl⟩; rw [HB.out])
    | (at_make; go_loud (refine wpList_make_own _ rfl _ _ 161 rfl w.heap.size 135 i0 (.int .u64 0) 1 Tryz.underlying161 hi hz0 hz1 .i64 .i64 _ (s.size / 9 + 2) rfl rfl (by omega) (by rw [hz2]; omega) (by unfold maxLen; omega) (Nat.le_refl _) ?_); intro w0 hown0 hgrow0))
  have hb0 : Below w.heap.size w w0 := (Below.refl _ _).grown hgrow0 (Nat.le_refl _) (by intro k hk; cases hk)
  have hr0 : Row w0 w.heap.size w.heap.size (s.size / 9 + 2) [] := hown0
  clear hown0 hgrow0
  go_wp2
  go_loopw [4, 5, 6, 7] (fun v ev _ _ wr => ∃ (k g cap : Nat) (p : List Nat) (E : Int), v = .slice (some ⟨g, 0, none⟩) p.length cap ∧ ev = .int .i64 E ∧ -9 < E ∧ E ≤ s.size ∧ Row wr w.heap.size g cap p ∧ Below w.heap.size w wr ∧ Hid (p.length = k ∧ E = (s.size : Int) - 9 * k ∧ lt9 p ∧ pv p = val (s.data.toList.drop (s.size - 9 * k)))) (fun _ ev _ _ _ => (intOf ev).toNat)
  case atStart => exact ⟨0, w.heap.size, s.size / 9 + 2, [], s.size, rfl, rfl, by omega, by omega, hr0, hb0, rfl, by simp, by simp [lt9], by rw [List.drop_of_length_le (by rw [len_list]; omega)]; rfl⟩
  case round =>
    obtain ⟨k, g, cap, p, E, rfl, rfl, hE1, hE2, hrow, hbel, HH⟩ := hrel
    by_cases hE : 0 < E
    · obtain ⟨e, rfl⟩ : ∃ e : Nat, E = e := ⟨E.toNat, by omega⟩
      have hlen := hrow.len_cap
      unfold maxLen at hlen
      obtain ⟨hk, hEk, h9, hpv⟩ := HH.out
      have hkb : p.length < 200000 := by omega
      have hsz : (s.extract (e - 9) e).size ≤ 9 := by rw [ByteArray.size_extract]; omega
      have hdg : (s.extract (e - 9) e).data.toList.all isD = true := by rw [ext_list]; exact all_sub HA.out _ _
      have hval := value_any (s.extract (e - 9) e) wr hsz hdg
      rw [ext_list] at hval
      have hlt := val_lt _ (all_sub HA.out (e - 9) e)
      have hll : ((s.data.toList.take e).drop (e - 9)).length ≤ 9 := by rw [List.length_drop, List.length_take]; omega
      have hpw : 10 ^ ((s.data.toList.take e).drop (e - 9)).length ≤ 10 ^ 9 := Nat.pow_le_pow_right (by decide) hll
      have hstep := cut_step s.data.toList e (by rw [len_list]; omega) p (by rw [hpv]; congr 2; omega) (by rw [len_list]; omega)
      obtain ⟨x, hx⟩ : ∃ x, x = val ((s.data.toList.take e).drop (e - 9)) := ⟨_, rfl⟩
      rw [← hx] at hval hlt hstep
      have hx9 : x < 1000000000 := by omega
      have HX : Hid (p.length = k ∧ (e : Int) = (s.size : Int) - 9 * k ∧ lt9 p ∧ pv (p ++ [x]) = val (s.data.toList.drop (e - 9))) := ⟨hk, hEk, h9, hstep⟩
      have HV := Lib.hid hval
      have HR := Lib.hid hrow
      clear hval hlt hll hpw hstep hx hk hEk h9 hpv HH hsz hdg
      go_wp2_with fail
      rw [show (max 0 ((e : Int) - 9)).toNat = e - 9 from by omega]
      refine HV.out.mono ?_
      rintro e' w1 ⟨rfl, rfl⟩
      go_wp2_with (first
        | (at_builtin; refine wpList_append_own _ rfl _ _ 161 rfl w.heap.size 135 i0 (.int .u64 0) 1 8 Tryz.underlying161 hi hz0 hz1 hz2 rfl (by decide) _ _ _ rfl (World.ownsRow.alloc HR.out _) ⟨wr.heap.size, 0, none⟩ 1 1 [.int .u64 (x : Int)] rfl rfl ?c1 ?c2 ?c3 ?c4 ?c5 ?_)
        | fail)
      case c1 =>
        intro j u hj
        match j, hj with
        | 0, hj => simp at hj; subst hj; simp [Addr.add]
      case c2 => intro u hu; simp at hu; subst hu; rfl
      case c3 => unfold maxLen; omega
      case c4 => omega
      case c5 => have := hbel.size; simp; omega
      · intro v' w2 hown' hgrow _
        obtain ⟨g', cap', rfl⟩ := own_some hown' (by omega)
        have hrow' : Row w2 w.heap.size g' cap' (p ++ [x]) := Row.of hown' (by simp) (by rw [c64_append]; rfl)
        have hbel' : Below w.heap.size w w2 := ((hbel.alloc (by have := hbel.size; omega) _).grown hgrow (by have := hbel.size; simp; omega) (by intro q hq; simp [Value.ownBlock] at hq; have := HR.out.lt; omega))
        have hlen' : (p ++ [x]).length = p.length + 1 := by simp
        clear hown' hgrow
        go_wp2_with fail
        all_goals go_roundw
        case rel =>
          obtain ⟨hk, hEk, h9, hstep⟩ := HX
          refine ⟨k + 1, g', cap', p ++ [x], (e : Int) - 9, by rw [hlen'], rfl, by omega, by omega, hrow', hbel', by rw [hlen', hk], by omega, lt9_snoc h9 hx9, ?_⟩
          rw [hstep]; congr 2; omega
        case measure => simp [intOf]; omega
    · go_wp2_with fail
      refine (trim_any _ g cap p _ hrow).mono ?_
      rintro e' w1 ⟨rfl, rfl⟩
      go_wp2_with fail
      go_ret2
      obtain ⟨hk, hEk, h9, hpv⟩ := HH.out
      have hz : s.size - 9 * k = 0 := by omega
      rw [hz, List.drop_zero] at hpv
      refine ⟨g, cap, trimP p, rfl, ?_, ?_, hbel⟩
      · rw [← hpv]; exact Pcs.of_trim h9
      · have := hrow.take (trimP p).length (trimP_props p).2.2.2.1
        rw [← (trimP_props p).2.2.2.2] at this; exact this

theorem canon_str (a : Nat) : canonL (str a).data.toList = true := by rw [str_list]; exact canon_dd a
theorem val_str (a : Nat) : val (str a).data.toList = a := by rw [str_list, val_dd]

set_option maxHeartbeats 1600000 in
theorem cutBoth_any (a b : Nat) (w : World) (ha : (str a).size ≤ 1000000) (hb : (str b).size ≤ 1000000) :
    Calls Tryz.prog 154 #[.string (str a), .string (str b)] w fun e w' => ∃ (g cap : Nat) (p : List Nat) (g' cap' : Nat) (q : List Nat), e = .returned (.tuple #[.slice (some ⟨g, 0, none⟩) p.length cap, .slice (some ⟨g', 0, none⟩) q.length cap', .bool true]) ∧ Pcs p a ∧ Pcs q b ∧ Row w' w.heap.size g cap p ∧ Row w' w.heap.size g' cap' q ∧ g < g' ∧ Below w.heap.size w w' := by
  go_enter Tryz.func154, Tryz.ntmps154
  go_wp2_with fail
  refine (cut_any _ _ ha (canon_str a)).mono ?_
  rintro e w1 ⟨g, cap, p, rfl, hp, hr, hb1⟩
  rw [val_str] at hp
  have HR := Lib.hid hr
  have HP := Lib.hid hp
  clear hr hp
  go_wp2_with fail
  refine (cut_any _ _ hb (canon_str b)).mono ?_
  rintro e w2 ⟨g', cap', q, rfl, hq, hr2, hb2⟩
  rw [val_str] at hq
  have HR2 := Lib.hid hr2
  have HQ := Lib.hid hq
  clear hr2 hq
  go_wp2_with fail
  go_ret3
  exact ⟨g, cap, p, g', cap', q, rfl, HP.out, HQ.out, HR.out.below hb2, HR2.out.mono hb1.size, by have h1 := HR.out.lt; have h2 := HR2.out.lt; omega, hb1.trans (hb2.mono hb1.size)⟩
end Go.Proofs.YtdgbplppabalgaaGreatDoor

namespace Go.Proofs.YtdgbplppabalgaaGreatDoor
open Go.RowKit

/-- bytes as cells -/
def c8 (l : List UInt8) : List Value := l.map fun c : UInt8 => Value.int .u8 (c.toNat : Int)
theorem c8_len (l : List UInt8) : (c8 l).length = l.length := by simp [c8]
theorem c8_at (l : List UInt8) (i : Nat) (h : i < l.length) : (c8 l)[i]? = some (.int .u8 (((l[i]'h).toNat : Nat) : Int)) := by simp [c8, h]
theorem c8_set (l : List UInt8) (k : Nat) (c : UInt8) : (c8 l).set k (.int .u8 (c.toNat : Int)) = c8 (l.set k c) := by simp [c8, List.map_set]
def RowB (w : World) (B g cap n : Nat) (l : List UInt8) : Prop := l.length = n ∧ w.ownsRow B 5 1 (.slice (some ⟨g, 0, none⟩) n cap) n (c8 l)
theorem RowB.cell {w : World} {B g cap n : Nat} {l : List UInt8} (h : RowB w B g cap n l) (i : Nat) (hi : i < l.length) : w.cell? ⟨g, i, none⟩ = some (.int .u8 (((l[i]'hi).toNat : Nat) : Int)) := by
  rw [World.ownsRow.cellAt h.2 i (by have := h.1; omega), c8_at l i hi]
theorem RowB.free {w : World} {B g cap n : Nat} {l : List UInt8} (h : RowB w B g cap n l) (i : Nat) : w.frozen? ⟨g, i, none⟩ = false := World.ownsRow.frozenAt h.2 i
theorem RowB.set {w : World} {B g cap n : Nat} {l : List UInt8} (h : RowB w B g cap n l) (k : Nat) (c : UInt8) : RowB (w.setCell ⟨g, k, none⟩ (.int .u8 (c.toNat : Int))) B g cap n (l.set k c) := by
  have h1 := (World.ownsRow.stored h.2 k (.int .u8 (c.toNat : Int))).1
  rw [c8_set] at h1
  exact ⟨by rw [List.length_set]; exact h.1, h1⟩
theorem RowB.lt {w : World} {B g cap n : Nat} {l : List UInt8} (h : RowB w B g cap n l) : B ≤ g ∧ g < w.heap.size := World.ownsRow.lt h.2 g rfl
theorem RowB.len_cap {w : World} {B g cap n : Nat} {l : List UInt8} (h : RowB w B g cap n l) : n ≤ cap ∧ cap ≤ maxLen := by
  rcases h.2.2 with ⟨h0, _⟩ | ⟨g', cap', cur, e, hg, hh, h1, h2, _⟩
  · cases h0
  · cases e; exact ⟨h1, h2⟩
theorem info8 : (Tryz.prog.info? 5).map (fun i => (i.zero, i.size, i.bytes)) = some (some (.int .u8 0), 1, 1) := by kernel_rfl
/-- zeros, then what has been written -/
def dig0 (m : Nat) (s : List UInt8) : List UInt8 := List.replicate m 0 ++ s
theorem dig0_set (m : Nat) (s : List UInt8) (c : UInt8) : (dig0 (m + 1) s).set m c = dig0 m (c :: s) := by
  unfold dig0
  rw [List.replicate_succ', List.append_assoc, List.set_append_right _ _ (by simp)]
  simp
theorem dig0_len (m : Nat) (s : List UInt8) : (dig0 m s).length = m + s.length := by simp [dig0]
theorem joinL_take (p : List Nat) (k : Nat) (hk : k < p.length) : joinL (p.take (k + 1)) = ld (p[k]'hk) 9 ++ joinL (p.take k) := by
  rw [List.take_succ_eq_append_getElem hk, joinL_snoc]

theorem RowB.bytesAt {w : World} {B g cap n : Nat} {l : List UInt8} (h : RowB w B g cap n l) : Lib.BytesAt w (some ⟨g, 0, none⟩) n l := by
  intro h0
  refine ⟨g, 0, rfl, fun i hi => ?_⟩
  have hl : i < l.length := by rw [h.1]; exact hi
  rw [Nat.zero_add, h.cell i hl]
  simp [List.getD_eq_getElem?_getD, hl]
theorem left_val {g n a : Nat} {l : List UInt8} (hl : l.length = n) (hd : l.dropWhile (· == 48) = Lib.decDigits a) :
    Lib.leftV (some ⟨g, 0, none⟩) n n (n - (Lib.trimLeftS l [48]).length) = .slice (some ⟨g, n - (Lib.decDigits a).length, none⟩) (Lib.decDigits a).length (Lib.decDigits a).length ∧
    (∀ j (hj : j < (Lib.decDigits a).length), ∃ h : n - (Lib.decDigits a).length + j < l.length, l[n - (Lib.decDigits a).length + j]'h = (Lib.decDigits a)[j]) := by
  have e : Lib.trimLeftS l [48] = Lib.decDigits a := by rw [Lib.trimLeftS_one]; exact hd
  have hs : Lib.decDigits a <:+ l := by rw [← hd]; exact List.dropWhile_suffix _
  have hle : (Lib.decDigits a).length ≤ l.length := hs.length_le
  have hpos : 0 < (Lib.decDigits a).length := List.length_pos_iff.2 (dd_ne a)
  have hdr : Lib.decDigits a = l.drop (l.length - (Lib.decDigits a).length) := (List.suffix_iff_eq_drop.1 hs)
  rw [e]
  constructor
  · unfold Lib.leftV Lib.fromV
    rw [if_neg (by omega), if_neg (by omega)]
    simp only [Option.map_some, Lib.add_plain, Nat.zero_add]
    rw [show n - (n - (Lib.decDigits a).length) = (Lib.decDigits a).length by omega]
  · intro j hj
    refine ⟨by omega, ?_⟩
    have h1 : (Lib.decDigits a)[j]? = (l.drop (l.length - (Lib.decDigits a).length))[j]? := by rw [← hdr]
    rw [List.getElem?_drop, List.getElem?_eq_getElem hj, List.getElem?_eq_getElem (by omega)] at h1
    have h2 := Option.some.inj h1
    rw [h2]; simp only [hl]

set_option maxHeartbeats 3200000 in
set_option maxRecDepth 100000 in
theorem join_any (B g cap : Nat) (p : List Nat) (a : Nat) (w : World) (h : Row w B g cap p) (hp : Pcs p a) (hn : p.length ≤ 200000) :
    Calls Tryz.prog 155 #[.slice (some ⟨g, 0, none⟩) p.length cap] w fun e w' => e = .returned (.string (str a)) ∧ Below w.heap.size w w' := by
  by_cases h0 : p = []
  · subst h0
    have ha : a = 0 := hp.val.symm
    have hs : str a = ⟨#[48]⟩ := by rw [ha]; exact (str_eq 0 (by decide) (by decide)).symm
    rw [hs]
    clear hs ha h hp
    go_enter Tryz.func155, Tryz.ntmps155
    go_wp2_with fail
    go_ret
    exact ⟨rfl, Below.refl _ _⟩
  · have hlc := h.len_cap
    unfold maxLen at hlc
    obtain ⟨i0, hi, hz0, hz1, hz2⟩ := info_parts info8
    have hpos : 0 < p.length := List.length_pos_iff.2 h0
    have hb0 : ((p.length : Int) == 0) = false := by rw [beq_eq_false_iff_ne]; omega
    have HH := Lib.hid h
    have HP := Lib.hid (joinL_canon hp h0)
    have HA := Lib.hid hp
    clear h hp h0
    go_enter Tryz.func155, Tryz.ntmps155
    go_wp2_with (at_make; refine wpList_make_full _ rfl _ _ 98 rfl w.heap.size 5 i0 (.int .u8 0) 1 Tryz.underlying98 hi hz0 hz1 .i64 .i64 _ _ (9 * p.length) rfl rfl (by omega) (by omega) (by rw [hz2]; omega) (by unfold maxLen; omega) (Nat.le_refl _) ?_; intro w0 hown0 hgrow0)
    have hbel0 : Below w.heap.size w w0 := (Below.refl _ _).grown hgrow0 (Nat.le_refl _) (by intro k hk; cases hk)
    have hrow0 : RowB w0 w.heap.size w.heap.size (9 * p.length) (9 * p.length) (dig0 (9 * p.length) []) := by
      refine ⟨by rw [dig0_len]; simp, ?_⟩
      have e : c8 (dig0 (9 * p.length) []) = (madeCells (Value.int .u8 0).cells (9 * p.length * 1)).toList := by
        rw [show (Value.int .u8 0).cells = #[.int .u8 0] from rfl, toList_madeCells_one, Nat.mul_one]; simp [c8, dig0]
      rw [e]; exact hown0
    clear hown0 hgrow0
    go_wp2_with fail
    go_loopw [4, 6, 18, 22] (fun av _ iv _ wr => ∃ k m : Nat, iv = .int .i64 k ∧ k ≤ p.length ∧ av = .int .i64 m ∧ Hid (m + 9 * k = 9 * p.length) ∧ RowB wr w.heap.size w.heap.size (9 * p.length) (9 * p.length) (dig0 m (joinL (p.take k))) ∧ Below w.heap.size w wr) (fun _ _ iv _ _ => p.length - (intOf iv).toNat)
    case atStart => exact ⟨0, 9 * p.length, rfl, Nat.zero_le _, by go_num, by show _ = _; omega, hrow0, hbel0⟩
    case round =>
      obtain ⟨k, m, rfl, hk, rfl, HM, hrow, hbel⟩ := hrel
      by_cases hlt : k < p.length
      · have hcell := (HH.out.below hbel).cell k hlt
        obtain ⟨wo, rfl⟩ : ∃ wo : World, wo = wr := ⟨_, rfl⟩
        have hx9 := lt9_at HA.out.lt k hlt
        obtain ⟨x, hx⟩ : ∃ x : Nat, x = p[k] := ⟨_, rfl⟩
        rw [← hx] at hcell hx9
        have HX := Lib.hid hx
        have HJ := Lib.hid (joinL_take p k hlt)
        clear hx
        have HR := Lib.hid hrow
        have HB := Lib.hid hbel
        clear hrow hbel
        go_wp2_with fail
        go_loopw [4, 6, 22] (fun av xv jv wr => ∃ j m y : Nat, jv = .int .i64 j ∧ j ≤ 9 ∧ av = .int .i64 m ∧ xv = .int .u64 y ∧ y < 1000000000 ∧ Hid (m + j + 9 * k = 9 * p.length ∧ y = x / 10 ^ j) ∧ RowB wr w.heap.size w.heap.size (9 * p.length) (9 * p.length) (dig0 m (ld x j ++ joinL (p.take k))) ∧ Below w.heap.size w wr) (fun _ _ jv _ => 9 - (intOf jv).toNat)
        case atStart => exact ⟨0, m, x, rfl, by omega, rfl, rfl, hx9, ⟨by have := HM.out; omega, by simp⟩, HR.out, HB.out⟩
        case round =>
          obtain ⟨j, m', y, rfl, hj, rfl, rfl, hy, HI, hrow, hbel⟩ := hrel
          by_cases hj9 : j < 9
          · have hi1 := HI.out.1
            obtain ⟨q, rfl⟩ : ∃ q, m' = q + 1 := ⟨m' - 1, by omega⟩
            have hl : (ld x j ++ joinL (p.take k)).length = j + 9 * k := by rw [List.length_append, ld_len, joinL_len, List.length_take]; omega
            have hq : q < (dig0 (q + 1) (ld x j ++ joinL (p.take k))).length := by rw [dig0_len]; omega
            obtain ⟨c0, hc0⟩ : ∃ c0 : Int, wr.cell? ⟨w.heap.size, q, none⟩ = some (.int .u8 c0) := ⟨_, hrow.cell q hq⟩
            have hf0 := hrow.free q
            have hqb : q < 9 * p.length := by omega
            have HR2 := Lib.hid hrow
            have HB2 := Lib.hid hbel
            clear hrow hbel hq hl hi1
            go_wp2_with fail
            all_goals go_roundw
            case rel =>
              have hy2 := HI.2
              have ed : 48 + (y : Int) % 10 = ((Lib.dg x j).toNat : Int) := by rw [dg_nat, ← hy2]; omega
              have e2 := HR2.out.set q (Lib.dg x j)
              rw [dig0_set, ← ed] at e2
              refine ⟨j + 1, q, y / 10, by go_num, by omega, rfl, by go_num, by omega, ⟨by have := HI.1; omega, by rw [hy2, Nat.pow_succ, Nat.div_div_eq_div_mul]⟩, e2, HB2.out.setCell (Nat.le_refl _) _⟩
            case measure => simp [intOf]; omega
          · have HR2 := Lib.hid hrow
            have HB2 := Lib.hid hbel
            clear hrow hbel
            go_wp2_with fail
            all_goals go_roundw
            case rel =>
              have hj' : j = 9 := by omega
              subst hj'
              have e2 := HR2.out
              rw [HX.out, ← HJ.out] at e2
              exact ⟨k + 1, m', by go_num, by omega, rfl, by show _ = _; have := HI.1; omega, e2, HB2.out⟩
            case measure => simp [intOf]; omega
      · have hk' : k = p.length := by omega
        subst hk'
        have hm0 : m = 0 := by have := HM.out; omega
        subst hm0
        have hjl : (joinL p).length = 9 * p.length := joinL_len p
        have hrow2 : RowB wr w.heap.size w.heap.size (9 * p.length) (9 * p.length) (joinL p) := by
          have := hrow; rw [List.take_length] at this; exact this
        obtain ⟨hv, hcs⟩ := left_val (g := w.heap.size) hjl HP.out
        have htr := Tryz.bytes_TrimLeft_one (some ⟨w.heap.size, 0, none⟩) (9 * p.length) (9 * p.length) (joinL p) 48 wr hjl (Nat.le_refl _) (by omega) hrow2.bytesAt (by omega) (by decide)
        rw [hv] at htr
        have hcv := run_convert_bytes_back (P := Tryz.prog) wr 98 22 5 ⟨w.heap.size, 9 * p.length - (Lib.decDigits a).length, none⟩ (Lib.decDigits a).length (Lib.decDigits a) Tryz.underlying98 Tryz.underlying5 Tryz.underlying22 (fun j hj => by
          obtain ⟨h1, h2⟩ := hcs j hj
          rw [Lib.add_plain, hrow2.cell _ h1, h2])
        have HT := Lib.hid htr
        have HB2 := Lib.hid hbel
        clear htr hv hcs hrow hbel hrow2 hjl hlt
        generalize 9 * p.length - (Lib.decDigits a).length = z at *
        generalize (Lib.decDigits a).length = L at *
        go_wp2_with fail
        refine HT.out.mono ?_
        rintro e w' ⟨rfl, rfl⟩
        go_wp2_with fail
        go_ret
        exact ⟨rfl, HB2.out⟩
end Go.Proofs.YtdgbplppabalgaaGreatDoor

namespace Go.Proofs.YtdgbplppabalgaaGreatDoor
open Go.RowKit

theorem ret_two {a b c d : Value} (h : a = b) (k : c = d) : Ending.returned (.tuple #[a, c]) = Ending.returned (.tuple #[b, d]) := by rw [h, k]

set_option maxHeartbeats 400000 in
theorem div64_small (lo y : Nat) (hy : 0 < y) (hlo : lo < 18446744073709551616) (w : World) :
    Calls Tryz.prog 211 #[.int .u64 0, .int .u64 lo, .int .u64 y] w fun e w' => e = .returned (.tuple #[.int .u64 ((lo / y : Nat) : Int), .int .u64 ((lo % y : Nat) : Int)]) ∧ Below w.heap.size w w' := by
  have hy0 : ((y : Int) == 0) = false := by rw [beq_eq_false_iff_ne]; omega
  have hwr : IntKind.u64.wrap ((lo : Int) / (y : Int)) = (lo : Int) / (y : Int) := by
    have hq := Nat.div_le_self lo y
    rw [← Int.natCast_ediv, IntKind.wrap_u64]; generalize lo / y = q at hq ⊢; omega
  clear hlo
  go_enter Tryz.func211, Tryz.ntmps211
  go_wp2
  go_quiet (fail)
  go_wp2
  go_ret2
  exact ⟨ret_two (a := .int .u64 ((lo : Int) / (y : Int))) (c := .int .u64 ((lo : Int) % (y : Int))) (by rw [Int.natCast_ediv]) (by rw [Int.natCast_emod]), below_drewN (Below.refl _ _) _⟩

set_option maxHeartbeats 800000 in
set_option maxRecDepth 100000 in
theorem takeShort_small (rest piece n : Nat) (hr : rest < n) (hp : piece < 1000000000) (hn : n ≤ 18446744072) (w : World) :
    Calls Tryz.prog 188 #[.int .u64 rest, .int .u64 piece, .int .u64 n] w fun e w' => e = .returned (.tuple #[.int .u64 (((rest * 1000000000 + piece) / n : Nat) : Int), .int .u64 (((rest * 1000000000 + piece) % n : Nat) : Int)]) ∧ Below w.heap.size w w' := by
  have hm := Tryz.bits_Mul64 rest 1000000000 (by omega) (by omega) w
  obtain ⟨v, hv⟩ : ∃ v : Nat, v = rest * 1000000000 := ⟨_, rfl⟩
  rw [← hv] at hm ⊢
  rw [Nat.div_eq_of_lt (show v < 18446744073709551616 by omega), Nat.mod_eq_of_lt (show v < 18446744073709551616 by omega)] at hm
  obtain ⟨u, hu⟩ : ∃ u : Nat, u = v + piece := ⟨_, rfl⟩
  have ha := fun wx => Tryz.bits_Add64 v piece 0 (by omega) wx
  have ha' : ∀ wx, (callFunc 174 #[.int .u64 (v : Int), .int .u64 (piece : Int), .int .u64 0]).run Tryz.prog wx = .ok (.value (.tuple #[.int .u64 (u : Int), .int .u64 0])) wx := fun wx => by
    have h := ha wx
    rw [Nat.add_zero, ← hu, Nat.div_eq_of_lt (show u < 18446744073709551616 by omega), Nat.mod_eq_of_lt (show u < 18446744073709551616 by omega)] at h
    exact h
  clear ha
  have hd := fun wx => div64_small u n (by omega) (by omega) wx
  rw [hu] at hd
  rw [← hu] at hd ⊢
  have HM := Lib.hid hm
  have HD := Lib.hid hd
  clear hm hd hv hu
  go_enter Tryz.func188, Tryz.ntmps188
  go_wp2_with (first
    | (go_at_call 127; refine HM.out.mono ?_; rintro e w' ⟨rfl, rfl⟩)
    | (go_at_call 211; refine (HD.out _).mono ?_; rintro e w' ⟨rfl, hb⟩))
  go_ret2
  exact ⟨rfl, hb⟩

/-- zeros, then what has been written -/
def z0 (m : Nat) (s : List Nat) : List Nat := List.replicate m 0 ++ s
theorem z0_set (m : Nat) (s : List Nat) (c : Nat) : (z0 (m + 1) s).set m c = z0 m (c :: s) := by
  unfold z0
  rw [List.replicate_succ', List.append_assoc, List.set_append_right _ _ (by simp)]
  simp
theorem z0_len (m : Nat) (s : List Nat) : (z0 m s).length = m + s.length := by simp [z0]
theorem Row.made {w : World} {B g n : Nat} (h : w.ownsRow B 135 1 (.slice (some ⟨g, 0, none⟩) n n) n (madeCells (Value.int .u64 0).cells (n * 1)).toList) : Row w B g n (z0 n []) := by
  refine Row.of h (by rw [z0_len]; rfl) ?_
  rw [show (Value.int .u64 0).cells = #[.int .u64 0] from rfl, toList_madeCells_one, Nat.mul_one]; simp [c64, z0]

set_option maxHeartbeats 3200000 in
set_option maxRecDepth 100000 in
theorem divideShort_small (B g cap : Nat) (p : List Nat) (n : Nat) (w : World) (h : Row w B g cap p) (h9 : lt9 p) (hn0 : 0 < n) (hn1 : n ≤ 18446744072) (hl : p.length ≤ 200000) :
    Calls Tryz.prog 203 #[.slice (some ⟨g, 0, none⟩) p.length cap, .int .u64 n] w fun e w' => ∃ (g' cap' : Nat) (q : List Nat), e = .returned (.tuple #[.slice (some ⟨g', 0, none⟩) q.length cap', .int .u64 ((pv p % n : Nat) : Int)]) ∧ Pcs q (pv p / n) ∧ Row w' w.heap.size g' cap' q ∧ Below w.heap.size w w' := by
  have hlc := h.len_cap
  unfold maxLen at hlc
  obtain ⟨i0, hi, hz0, hz1, hz2⟩ := info_parts info64
  have HH := Lib.hid h
  have H9 := Lib.hid h9
  clear h h9
  go_enter Tryz.func203, Tryz.ntmps203
  go_wp2_with (at_make; refine wpList_make_full _ rfl _ _ 161 rfl w.heap.size 135 i0 (.int .u64 0) 1 Tryz.underlying161 hi hz0 hz1 .i64 .i64 _ _ p.length rfl rfl (by omega) (by omega) (by rw [hz2]; omega) (by unfold maxLen; omega) (Nat.le_refl _) ?_; intro w0 hown0 hgrow0)
  have hbel0 : Below w.heap.size w w0 := (Below.refl _ _).grown hgrow0 (Nat.le_refl _) (by intro k hk; cases hk)
  have hrow0 := Row.made hown0
  clear hown0 hgrow0
  go_wp2_with fail
  go_loopw [5, 6] (fun rv iv wr => ∃ (k r : Nat) (E : Int), iv = .int .i64 E ∧ k ≤ p.length ∧ -1 ≤ E ∧ E < p.length ∧ rv = .int .u64 r ∧ r < n ∧ Hid (E = (k : Int) - 1 ∧ r = (divS n (p.drop k)).2) ∧ Row wr w.heap.size w.heap.size p.length (z0 k (divS n (p.drop k)).1) ∧ Below w.heap.size w wr) (fun _ iv _ => (intOf iv + 1).toNat)
  case atStart =>
    refine ⟨p.length, 0, (p.length : Int) - 1, rfl, Nat.le_refl _, by omega, by omega, rfl, hn0, ⟨rfl, ?_⟩, ?_, hbel0⟩
    · rw [List.drop_length]; rfl
    · rw [List.drop_length]; exact hrow0
  case round =>
    obtain ⟨k, r, E, rfl, hk, hE1, hE2, rfl, hr, HI, hrow, hbel⟩ := hrel
    have hkE := HI.1
    by_cases hE : 0 ≤ E
    · obtain ⟨j, rfl⟩ : ∃ j : Nat, E = j := ⟨E.toNat, by omega⟩
      obtain rfl : k = j + 1 := by omega
      have hj : j < p.length := by omega
      have hcell := (HH.out.below hbel).cell j hj
      have hx9 := lt9_at H9.out j hj
      have hds := divS_drop n p j hj
      obtain ⟨x, hx⟩ : ∃ x : Nat, x = p[j] := ⟨_, rfl⟩
      rw [← hx] at hcell hx9 hds
      have hts := takeShort_small r x n hr hx9 hn1 wr
      rw [← HI.2] at hds
      obtain ⟨d, hd⟩ : ∃ d : Nat, d = (r * 1000000000 + x) / n := ⟨_, rfl⟩
      obtain ⟨m, hm⟩ : ∃ m : Nat, m = (r * 1000000000 + x) % n := ⟨_, rfl⟩
      have hmn : m < n := by rw [hm]; exact Nat.mod_lt _ hn0
      rw [← hd, ← hm] at hts hds
      have HD := Lib.hid hds
      have HT := Lib.hid hts
      have HR2 := Lib.hid hrow
      have HB2 := Lib.hid hbel
      have hlen : j < (z0 (j + 1) (divS n (p.drop (j + 1))).1).length := by rw [z0_len]; omega
      obtain ⟨c0, hc0⟩ : ∃ c0 : Int, ∀ w1, Below wr.heap.size wr w1 → w1.cell? ⟨w.heap.size, j, none⟩ = some (.int .u64 c0) ∧ w1.frozen? ⟨w.heap.size, j, none⟩ = false := ⟨_, fun w1 hb => ⟨(hrow.below hb).cell j hlen, (hrow.below hb).free j⟩⟩
      have HC := Lib.hid hc0
      clear hds hts hd hm hx hrow hbel hlen hc0 hkE
      go_wp2_with fail
      refine HT.out.mono ?_
      rintro e w1 ⟨rfl, hb1⟩
      have hcz := (HC.out w1 hb1).1
      have hfz := (HC.out w1 hb1).2
      have HB1 := Lib.hid hb1
      clear hb1
      go_wp2_with fail
      all_goals go_roundw
      case rel =>
        have h1 := (HR2.out.below HB1.out).set j d
        rw [z0_set] at h1
        refine ⟨j, m, (j : Int) - 1, rfl, by omega, by omega, by omega, rfl, hmn, ⟨rfl, by rw [HD.out]⟩, by rw [HD.out]; exact h1, (HB2.out.trans (HB1.out.mono HB2.out.size)).setCell (Nat.le_refl _) _⟩
      case measure => simp [intOf] <;> omega
    · obtain rfl : k = 0 := by omega
      have hdr := HI.2
      rw [List.drop_zero] at hdr
      have hrow2 : Row wr w.heap.size w.heap.size p.length (divS n p).1 := by have := hrow; rw [List.drop_zero] at this; exact this
      have hlen := divS_len n p
      have hprops := divS_props n hn0 p
      have hq : pv (divS n p).1 = pv p / n ∧ r = pv p % n := by
        rw [hdr, ← hprops.1]
        constructor
        · rw [Nat.mul_comm, Nat.mul_add_div hn0, Nat.div_eq_of_lt hprops.2, Nat.add_zero]
        · rw [Nat.mul_comm, Nat.mul_add_mod, Nat.mod_eq_of_lt hprops.2]
      have ht := trim_any w.heap.size w.heap.size p.length (divS n p).1 wr hrow2
      rw [hlen] at ht
      have HT := Lib.hid ht
      have HQ := Lib.hid hq
      have HR2 := Lib.hid hrow2
      have HB2 := Lib.hid hbel
      have HP := Lib.hid hprops
      clear ht hq hrow2 hbel hrow hdr hprops HI
      go_wp2_with fail
      refine HT.out.mono ?_
      rintro e w1 ⟨rfl, rfl⟩
      go_wp2_with fail
      go_ret2
      refine ⟨w.heap.size, p.length, trimP (divS n p).1, ret_two (c := .int .u64 (r : Int)) rfl (by rw [HQ.out.2]), ?_, ?_, HB2.out⟩
      · rw [← HQ.out.1]; exact Pcs.of_trim (divS_lt9 n hn0 p H9.out)
      · have := HR2.out.take (trimP (divS n p).1).length (trimP_props _).2.2.2.1
        rw [← (trimP_props (divS n p).1).2.2.2.2] at this; exact this
end Go.Proofs.YtdgbplppabalgaaGreatDoor

namespace Go.Proofs.YtdgbplppabalgaaGreatDoor
open Go.RowKit

theorem mul_inner {L : List Nat} {k j c x y P0 pb : Nat} (hk : k + j < L.length) (h : pv L + 1000000000 ^ (k + j) * c = P0 + 1000000000 ^ k * (x * pb)) :
    pv (L.set (k + j) ((c + (L[k + j] + x * y)) % 1000000000)) + 1000000000 ^ (k + j + 1) * ((c + (L[k + j] + x * y)) / 1000000000) = P0 + 1000000000 ^ k * (x * (pb + 1000000000 ^ j * y)) := by
  have h1 := pv_set ((c + (L[k + j] + x * y)) % 1000000000) hk
  have h2 : 1000000000 ^ (k + j + 1) * ((c + (L[k + j] + x * y)) / 1000000000) + 1000000000 ^ (k + j) * ((c + (L[k + j] + x * y)) % 1000000000) = 1000000000 ^ (k + j) * (c + (L[k + j] + x * y)) := by
    rw [Nat.pow_succ, Nat.mul_assoc, ← Nat.mul_add, Nat.div_add_mod]
  have h3 : 1000000000 ^ (k + j) * (c + (L[k + j] + x * y)) = 1000000000 ^ (k + j) * c + 1000000000 ^ (k + j) * L[k + j] + 1000000000 ^ (k + j) * (x * y) := by
    rw [Nat.mul_add, Nat.mul_add]; omega
  have h4 : 1000000000 ^ k * (x * (pb + 1000000000 ^ j * y)) = 1000000000 ^ k * (x * pb) + 1000000000 ^ (k + j) * (x * y) := by
    rw [Nat.mul_add, Nat.mul_add, Nat.pow_add]
    congr 1
    rw [Nat.mul_assoc, Nat.mul_left_comm x]
  rw [h4]; omega
theorem mul_outer {L : List Nat} {k lb c x P0 pb pa : Nat} (hk : k + lb < L.length) (h0 : L[k + lb] = 0) (hP : P0 = pa * pb) (h : pv L + 1000000000 ^ (k + lb) * c = P0 + 1000000000 ^ k * (x * pb)) :
    pv (L.set (k + lb) c) = (pa + 1000000000 ^ k * x) * pb := by
  have h1 := pv_set c hk
  rw [h0] at h1
  rw [Nat.add_mul, Nat.mul_assoc]; omega
theorem mul_carry {c l x y : Nat} (hc : c < 1000000000) (hl : l < 1000000000) (hx : x < 1000000000) (hy : y < 1000000000) : c + (l + x * y) < 1000000000000000000 ∧ (c + (l + x * y)) / 1000000000 < 1000000000 := by
  have h1 : x * y ≤ 999999999 * 999999999 := Nat.mul_le_mul (by omega) (by omega)
  omega

set_option maxHeartbeats 6400000 in
set_option maxRecDepth 100000 in
theorem multiply_any (B g cap g' cap' : Nat) (a b : List Nat) (w : World) (ha : Row w B g cap a) (hb : Row w B g' cap' b) (ha9 : lt9 a) (hb9 : lt9 b) (hla : a.length ≤ 200000) (hlb : b.length ≤ 200000) :
    Calls Tryz.prog 178 #[.slice (some ⟨g, 0, none⟩) a.length cap, .slice (some ⟨g', 0, none⟩) b.length cap'] w fun e w' => ∃ (h cap'' : Nat) (q : List Nat), e = .returned (.slice (some ⟨h, 0, none⟩) q.length cap'') ∧ Pcs q (pv a * pv b) ∧ Row w' w.heap.size h cap'' q ∧ Below w.heap.size w w' := by
  have hlc := ha.len_cap
  have hlc' := hb.len_cap
  unfold maxLen at hlc hlc'
  obtain ⟨i0, hi, hz0, hz1, hz2⟩ := info_parts info64
  have HA := Lib.hid ha
  have HB := Lib.hid hb
  have H9A := Lib.hid ha9
  have H9B := Lib.hid hb9
  clear ha hb ha9 hb9
  go_enter Tryz.func178, Tryz.ntmps178
  go_wp2_with (at_make; refine wpList_make_full _ rfl _ _ 161 rfl w.heap.size 135 i0 (.int .u64 0) 1 Tryz.underlying161 hi hz0 hz1 .i64 .i64 _ _ (a.length + b.length) rfl rfl (by omega) (by omega) (by rw [hz2]; omega) (by unfold maxLen; omega) (Nat.le_refl _) ?_; intro w0 hown0 hgrow0)
  have hbel0 : Below w.heap.size w w0 := (Below.refl _ _).grown hgrow0 (Nat.le_refl _) (by intro k hk; cases hk)
  have hrow0 := Row.made hown0
  clear hown0 hgrow0
  go_wp2_with fail
  go_loopw [6, 7, 8, 9, 10, 19, 26] (fun _ _ _ _ _ iv _ wr => ∃ (k : Nat) (L : List Nat), iv = .int .i64 k ∧ k ≤ a.length ∧ Hid (L.length = a.length + b.length ∧ lt9 L ∧ pv L = pv (a.take k) * pv b ∧ (∀ t (h : t < L.length), k + b.length ≤ t → L[t] = 0)) ∧ Row wr w.heap.size w.heap.size (a.length + b.length) L ∧ Below w.heap.size w wr) (fun _ _ _ _ _ iv _ _ => a.length - (intOf iv).toNat)
  case atStart =>
    refine ⟨0, z0 (a.length + b.length) [], rfl, Nat.zero_le _, ⟨by rw [z0_len]; rfl, ?_, ?_, ?_⟩, hrow0, hbel0⟩
    · unfold z0; rw [List.append_nil]; exact lt9_replicate _
    · unfold z0; rw [List.append_nil, pv_replicate]; simp [pv]
    · intro t ht _; simp [z0]
  case round =>
    obtain ⟨k, L, rfl, hk, HI, hrow, hbel⟩ := hrel
    by_cases hlt : k < a.length
    · have hcell := (HA.out.below hbel).cell k hlt
      have hx9 := lt9_at H9A.out k hlt
      have hts := pv_take_succ hlt
      obtain ⟨x, hx⟩ : ∃ x : Nat, x = a[k] := ⟨_, rfl⟩
      rw [← hx] at hcell hx9 hts
      have HTS := Lib.hid hts
      have HR := Lib.hid hrow
      have HBL := Lib.hid hbel
      clear hx hts hrow hbel
      obtain ⟨wo, rfl⟩ : ∃ wo : World, wo = wr := ⟨_, rfl⟩
      go_wp2_with fail
      go_loopw [8, 9, 10, 26] (fun cv _ _ jv wr => ∃ (j c : Nat) (L : List Nat), jv = .int .i64 j ∧ j ≤ b.length ∧ cv = .int .u64 c ∧ c < 1000000000 ∧ Hid (L.length = a.length + b.length ∧ lt9 L ∧ pv L + 1000000000 ^ (k + j) * c = pv (a.take k) * pv b + 1000000000 ^ k * (x * pv (b.take j)) ∧ (∀ t (h : t < L.length), k + b.length ≤ t → L[t] = 0)) ∧ Row wr w.heap.size w.heap.size (a.length + b.length) L ∧ Below w.heap.size w wr) (fun _ _ _ jv _ => b.length - (intOf jv).toNat)
      case atStart =>
        obtain ⟨h1, h2, h3, h4⟩ := HI
        exact ⟨0, 0, L, rfl, Nat.zero_le _, rfl, by omega, ⟨h1, h2, by rw [h3]; simp [pv], h4⟩, HR.out, HBL.out⟩
      case round =>
        obtain ⟨j, c, L', rfl, hj, rfl, hc, HJ, hrow, hbel⟩ := hrel
        have hL' := HJ.1
        by_cases hjt : j < b.length
        · have hcb := (HB.out.below hbel).cell j hjt
          have hy9 := lt9_at H9B.out j hjt
          have htsb := pv_take_succ hjt
          obtain ⟨y, hy⟩ : ∃ y : Nat, y = b[j] := ⟨_, rfl⟩
          rw [← hy] at hcb hy9 htsb
          have hkj : k + j < L'.length := by omega
          have hcp := hrow.cell (k + j) hkj
          have hfp := hrow.free (k + j)
          have hl9 := lt9_at HJ.2.1 (k + j) hkj
          have hin := mul_inner (y := y) hkj HJ.2.2.1
          obtain ⟨l, hl⟩ : ∃ l : Nat, l = L'[k + j] := ⟨_, rfl⟩
          rw [← hl] at hcp hl9 hin
          have hmc := mul_carry hc hl9 hx9 hy9
          obtain ⟨z, hz⟩ : ∃ z : Nat, z = x * y := ⟨_, rfl⟩
          have hxy : (x : Int) * (y : Int) = (z : Int) := by rw [hz]; simp
          rw [← hz] at hin hmc
          have hm1 := hmc.1
          have HC2 := Lib.hid hmc.2
          have HIN := Lib.hid hin
          have HTB := Lib.hid htsb
          have HR2 := Lib.hid hrow
          have HB2 := Lib.hid hbel
          clear hy htsb hl hmc hz hin hrow hbel hkj
          go_wp2_with fail
          all_goals go_roundw
          case rel =>
            have e := HR2.out.set (k + j) ((c + (l + z)) % 1000000000)
            have e2 : (((c + (l + z)) % 1000000000 : Nat) : Int) = ((c : Int) + ((l : Int) + (z : Int))) % 1000000000 := by omega
            rw [e2] at e
            refine ⟨j + 1, (c + (l + z)) / 1000000000, L'.set (k + j) ((c + (l + z)) % 1000000000), by go_num, by omega, by go_num, HC2.out, ⟨by rw [List.length_set]; exact hL', lt9_set HJ.2.1 (Nat.mod_lt _ (by decide)), ?_, ?_⟩, e, HB2.out.setCell (Nat.le_refl _) _⟩
            · rw [HTB.out]; exact HIN.out
            · intro t ht hkt
              rw [List.getElem_set_ne (by omega)]
              exact HJ.2.2.2 t (by rw [List.length_set] at ht; exact ht) hkt
          case measure => simp [intOf] <;> omega
        · obtain rfl : j = b.length := by omega
          have hkj : k + b.length < L'.length := by omega
          have hl0 := HJ.2.2.2 (k + b.length) hkj (Nat.le_refl _)
          have hcp := hrow.cell (k + b.length) hkj
          rw [hl0] at hcp
          have hfp := hrow.free (k + b.length)
          have heq := HJ.2.2.1
          rw [List.take_length] at heq
          have hou := mul_outer hkj hl0 rfl heq
          rw [← HTS.out] at hou
          have HOU := Lib.hid hou
          have HR2 := Lib.hid hrow
          have HB2 := Lib.hid hbel
          clear hl0 heq hou hrow hbel hkj
          go_wp2_with fail
          all_goals go_roundw
          case rel =>
            refine ⟨k + 1, L'.set (k + b.length) c, by go_num, by omega, ⟨by rw [List.length_set]; exact hL', lt9_set HJ.2.1 hc, HOU.out, ?_⟩, HR2.out.set (k + b.length) c, HB2.out.setCell (Nat.le_refl _) _⟩
            intro t ht hkt
            rw [List.getElem_set_ne (by omega)]
            exact HJ.2.2.2 t (by rw [List.length_set] at ht; exact ht) (by omega)
          case measure => simp [intOf] <;> omega
    · obtain rfl : k = a.length := by omega
      have hpv := HI.2.2.1
      rw [List.take_length] at hpv
      have ht := trim_any w.heap.size w.heap.size (a.length + b.length) L wr hrow
      rw [HI.1] at ht
      have HT := Lib.hid ht
      have HPV := Lib.hid hpv
      have HR2 := Lib.hid hrow
      have HB2 := Lib.hid hbel
      clear ht hpv hrow hbel
      go_wp2_with fail
      refine HT.out.mono ?_
      rintro e w1 ⟨rfl, rfl⟩
      go_wp2_with fail
      go_ret
      refine ⟨w.heap.size, a.length + b.length, trimP L, rfl, ?_, ?_, HB2.out⟩
      · rw [← HPV.out]; exact Pcs.of_trim HI.2.1
      · have := HR2.out.take (trimP L).length (trimP_props _).2.2.2.1
        rw [← (trimP_props L).2.2.2.2] at this; exact this
end Go.Proofs.YtdgbplppabalgaaGreatDoor
