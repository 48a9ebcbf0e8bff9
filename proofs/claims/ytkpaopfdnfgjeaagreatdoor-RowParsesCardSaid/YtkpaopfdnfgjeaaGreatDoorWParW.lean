/-
  row.Parse: the words.
-/
import Derived.Test.YtkpaopfdnfgjeaaGreatDoorWParN
import Derived.Test.YtkpaopfdnfgjeaaGreatDoorWPlus
namespace Go.Proofs.YtkpaopfdnfgjeaaGreatDoor
open Go.RowKit Go.Shelf

attribute [local go_sem] Oper.semAt_some

theorem splitSeq_in (n : Nat) (s sep : ByteArray) (w : World) :
    CallsIn Fence.wide n Tryz.prog 40 #[.string s, .string sep, .int .i64 0] w fun e w' => e = .returned (.func (.func 53) #[] #[.pointer (some ⟨w.heap.size + 1, 0, none⟩), .pointer (some ⟨w.heap.size, 0, none⟩), .pointer (some ⟨w.heap.size + 2, 0, none⟩)]) ∧
      w' = ((w.alloc (.cells #[.string s] 9)).alloc (.cells #[.string sep] 9)).alloc (.cells #[.int .i64 0] 3) := by
  refine callsIn_of_wp Tryz.func40 rfl trivial ?_ rfl
  simp only [Tryz.ntmps40, List.size_toArray, List.length_cons, List.length_nil, Nat.reduceAdd, Nat.reduceSub, Array.replicate_succ, Array.replicate_zero, List.push_toArray, List.append_toArray, List.nil_append, List.cons_append]
  gi_wp2
  go_ret
  exact ⟨rfl, rfl⟩
theorem SplitSeq_in (n : Nat) (s sep : ByteArray) (w : World) :
    CallsIn Fence.wide n Tryz.prog 19 #[.string s, .string sep] w fun e w' => e = .returned (.func (.func 53) #[] #[.pointer (some ⟨w.heap.size + 1, 0, none⟩), .pointer (some ⟨w.heap.size, 0, none⟩), .pointer (some ⟨w.heap.size + 2, 0, none⟩)]) ∧
      w' = ((w.alloc (.cells #[.string s] 9)).alloc (.cells #[.string sep] 9)).alloc (.cells #[.int .i64 0] 3) := by
  refine callsIn_of_wp Tryz.func19 rfl trivial ?_ rfl
  simp only [Tryz.ntmps19, List.size_toArray, List.length_cons, List.length_nil, Nat.reduceAdd, Nat.reduceSub, Array.replicate_succ, Array.replicate_zero, List.push_toArray, List.append_toArray, List.nil_append, List.cons_append]
  gi_wp2_with (refine ⟨trivial, (fun h => by cases h), ?_⟩; gi_at_call 40; refine (splitSeq_in _ _ _ _).mono ?_; rintro e w' ⟨rfl, rfl⟩)
  go_ret
  exact ⟨rfl, rfl⟩
theorem split_stops (n : Nat) (hn : 1 ≤ n) (Bs Bp Bv : Nat) (L : List (List UInt8)) (N : Nat) (hN : L.length ≤ N) (hsp : Bs ≠ Bp) (hsv : Bs ≠ Bv) (s : ByteArray) (hs : s.size ≤ 70000) (hL : wordsL s.data.toList = L) (w : World)
    (hBs : Boxed w Bs 9 (.string s)) (hBp : Boxed w Bp 9 (.string ⟨#[32]⟩)) (hBv : Boxed w Bv 3 (.int .i64 0)) :
    SeqBox Fence.wide n Tryz.prog 53 #[.pointer (some ⟨Bp, 0, none⟩), .pointer (some ⟨Bs, 0, none⟩), .pointer (some ⟨Bv, 0, none⟩)] (fun x : Wd => #[Value.string x.1]) (KeepS Bs Bp Bv) (fun zs => wl zs = L) (fun pre => ∃ r, wl pre ++ r = L) N Bs w :=
  fun l J Jx W hW _ hJ hY h0 => split1_in n hn l Bs Bp Bv L N hN hsp hsv J Jx hJ hY s hs hL W ((hW.block _ hBs.lt).trans hBs) ((hW.block _ hBp.lt).trans hBp) ((hW.block _ hBv.lt).trans hBv) h0

theorem boxedE_own {β : Type} (B : Nat) (t : TypeId) : Own (fun (_ : β) W => ∃ q, Boxed W B t q) := fun _ X Y row hs hg hr => by
  obtain ⟨q, h⟩ := hs
  exact ⟨q, boxed_own B t (fun _ : Unit => q) () X Y row h hg hr⟩
theorem keepsFrom_below {B : Nat} {W W' : World} (h : Below W.heap.size W W') : KeepsFrom B W W' := ⟨h.size, fun k _ _ hk _ => (h.block k (Array.getElem?_eq_some_iff.1 hk).1).trans hk⟩
theorem ownsRow_below {W W' : World} {B e size k : Nat} {v : Value} {xs : List Value} (h : W.ownsRow B e size v k xs) (hb : Below W.heap.size W W') : W'.ownsRow B e size v k xs :=
  World.ownsRow.kept (row := none) h ⟨hb.os, hb.tape, hb.output, hb.size, fun j hj _ => hb.block j hj⟩ (by cases v.ownBlock <;> simp)
theorem ownsRow_low {W : World} {B B' e size k : Nat} {v : Value} {xs : List Value} (h : W.ownsRow B e size v k xs) (hB : B' ≤ B) : W.ownsRow B' e size v k xs := by
  obtain ⟨h1, h2⟩ := h
  refine ⟨h1, ?_⟩
  rcases h2 with h2 | ⟨g, cap, cur, hv, hg, r⟩
  · exact .inl h2
  · exact .inr ⟨g, cap, cur, hv, Nat.le_trans hB hg, r⟩
theorem grow_low {W w1 : World} {B e size k : Nat} {v : Value} {xs : List Value} {o : Obj} (h : W.ownsRow B e size v k xs) (hg : (W.alloc o).grownBy w1 v.ownBlock) : ∀ b, b < B → b < W.heap.size → w1.heap[b]? = W.heap[b]? := by
  intro b hb hw
  have h1 := hg.block b (by simp; omega) (by intro e; have := (h.lt b e.symm).1; omega)
  rw [h1]
  exact Below.heap_alloc _ _ _ hw
theorem R3.drew {w W : World} {r : Value} {k : Bool} {c : Int} (h : R3 w W r k c) : R3 w W.drew r k c := ⟨h.1, h.2.1, h.2.2.1, h.2.2.2.drew⟩
theorem ownsRow_drew {W : World} {B e size k : Nat} {v : Value} {xs : List Value} (h : W.ownsRow B e size v k xs) : W.drew.ownsRow B e size v k xs := h
theorem R3.put {w W : World} {r : Value} {k : Bool} {c : Int} {D : Nat} {o o' : Obj} (h : R3 w W r k c) (hK : W.heap[D]? = some o) (hD : w.heap.size + 3 ≤ D) (hc : o.isCells = false := by rfl) (hw : o.isWalk = false := by rfl) : R3 w (W.putObj D o') r k c :=
  ⟨h.1.kept (grownBy_putObj' _ _ _) (by simp; omega), h.2.1.kept (grownBy_putObj' _ _ _) (by simp; omega), h.2.2.1.kept (grownBy_putObj' _ _ _) (by simp; omega), h.2.2.2.trans (belowK_b (w := w) (Nat.le_refl _) W D o o' (by omega) hK hc hw)⟩
/-- what Parse leaves of words -/
def ParW (ws : List (List UInt8)) (k : Bool) (w : World) (e : Ending) (w' : World) : Prop :=
  if ws.all canB = true then (if okB (ws.map atoV) = true then ParP (ws.map atoV) k 0 w e w' else ParP [] false 4 w e w') else ParP [] false 15 w e w'
set_option maxRecDepth 100000 in
set_option maxHeartbeats 3200000 in
theorem parN_words (s : ByteArray) (w : World) (hw : StdP w) (u : ByteArray) (k1 : Bool) (h : s.size ≤ 65536) (hu : unwL s.data.toList = (u.data.toList, k1, true)) (hne : u.data.toList ≠ []) :
    Calls Tryz.prog 8 #[.string s] w (ParW (wordsL u.data.toList) k1 w) := by
  have hi : ¬ (65536 : Int) < s.size := by omega
  have HU := Lib.hid (fun wx => unwrap_any s wx (by omega))
  simp only [hu] at HU
  have hul : (⟨u.data.toList.toArray⟩ : ByteArray) = u := by cases u; simp
  rw [hul] at HU
  have huz : u.size ≤ 65536 := by
    have := unwL_len s.data.toList
    rw [hu] at this
    rw [wlen_list, wlen_list] at this; omega
  have hne1 : ¬ u.toList = [] := by rw [btl]; exact hne
  have hne2 : u.toList.isEmpty = false := by rw [btl]; cases hz : u.data.toList with
    | nil => exact absurd hz hne
    | cons c r => rfl
  clear hu hul hne
  refine (callsIn_wide (n := 3)).1 ?_
  refine callsIn_of_wp_marks Tryz.func8 rfl trivial ?_ rfl
  simp only [Tryz.ntmps8, List.size_toArray, List.length_cons, List.length_nil, Nat.reduceAdd, Nat.reduceSub, Array.replicate_succ, Array.replicate_zero, List.push_toArray, List.append_toArray, List.nil_append, List.cons_append]
  gi_wp2_with (first
    | (refine ⟨trivial, ?_⟩; gi_at_call 18; refine (callsIn_wide.2 (HU.out _)).mono ?_; rintro e w' ⟨rfl, hw⟩; obtain rfl := hw)
    | (refine ⟨trivial, ?_⟩; gi_at_call 19; refine (SplitSeq_in _ _ _ _).mono ?_; rintro e w' ⟨rfl, rfl⟩))
  obtain ⟨W0, hW0⟩ : ∃ W0, W0 = (((((w.alloc (.cells #[.slice none 0 0] 23)).alloc (.cells #[.bool k1] 4)).alloc (.cells #[.int .i64 0] 25)).alloc (.cells #[.string u] 9)).alloc (.cells #[.string ⟨#[32]⟩] 9)).alloc (.cells #[.int .i64 0] 3) := ⟨_, rfl⟩
  rw [← hW0]
  have hz0 : W0.heap.size = w.heap.size + 6 := by rw [hW0]; simp
  have q0 : Boxed W0 w.heap.size 23 (.slice none 0 0) ∧ Boxed W0 (w.heap.size + 1) 4 (.bool k1) ∧ Boxed W0 (w.heap.size + 1 + 1) 25 (.int .i64 0) ∧ Boxed W0 (w.heap.size + 1 + 1 + 1) 9 (.string u) ∧ Boxed W0 (w.heap.size + 1 + 1 + 1 + 1) 9 (.string ⟨#[32]⟩) ∧ Boxed W0 (w.heap.size + 1 + 1 + 1 + 2) 3 (.int .i64 0) ∧ Below w.heap.size w W0 := by
    have h1 := Boxed.new w 23 (.slice none 0 0)
    have h2 := Boxed.new (w.alloc (.cells #[.slice none 0 0] 23)) 4 (.bool k1)
    have h3 := Boxed.new ((w.alloc (.cells #[.slice none 0 0] 23)).alloc (.cells #[.bool k1] 4)) 25 (.int .i64 0)
    have h4 := Boxed.new (((w.alloc (.cells #[.slice none 0 0] 23)).alloc (.cells #[.bool k1] 4)).alloc (.cells #[.int .i64 0] 25)) 9 (.string u)
    have h5 := Boxed.new ((((w.alloc (.cells #[.slice none 0 0] 23)).alloc (.cells #[.bool k1] 4)).alloc (.cells #[.int .i64 0] 25)).alloc (.cells #[.string u] 9)) 9 (.string ⟨#[32]⟩)
    have h6 := Boxed.new (((((w.alloc (.cells #[.slice none 0 0] 23)).alloc (.cells #[.bool k1] 4)).alloc (.cells #[.int .i64 0] 25)).alloc (.cells #[.string u] 9)).alloc (.cells #[.string ⟨#[32]⟩] 9)) 3 (.int .i64 0)
    simp only [World.size_alloc] at h2 h3 h4 h5 h6
    rw [hW0]
    exact ⟨((((h1.alloc _).alloc _).alloc _).alloc _).alloc _, (((h2.alloc _).alloc _).alloc _).alloc _, ((h3.alloc _).alloc _).alloc _, (h4.alloc _).alloc _, h5.alloc _, h6, ((((((Below.refl _ w).alloc (Nat.le_refl _) _).alloc (by simp) _).alloc (by simp; omega) _).alloc (by simp; omega) _).alloc (by simp; omega) _).alloc (by simp; omega) _⟩
  clear hW0
  obtain ⟨q1, q2, q3, q4, q5, q6, q7⟩ := q0
  obtain ⟨i0, hi0, hz1, hz2, hz3⟩ := info_parts infoI
  have hLn : (wordsL u.data.toList).length ≤ 65537 := by have := splW_len u.data.toList []; unfold wordsL; rw [wlen_list] at this; omega
  have HST := Lib.hid hw
  clear hw
  refine range_box rfl (by decide) (gf := 53) (lb := #[.pointer (some ⟨w.heap.size + 1 + 1 + 1 + 1, 0, none⟩), .pointer (some ⟨w.heap.size + 1 + 1 + 1, 0, none⟩), .pointer (some ⟨w.heap.size + 1 + 1 + 1 + 2, 0, none⟩)]) rfl trivial (enters_of Tryz.func53 (by kernel_rfl) rfl)
    (split_stops _ (by decide) (w.heap.size + 1 + 1 + 1) (w.heap.size + 1 + 1 + 1 + 1) (w.heap.size + 1 + 1 + 1 + 2) (wordsL u.data.toList) 65537 hLn (by omega) (by omega) u (by omega) rfl W0 q4 q5 q6) (by omega) keepS_t (keepS_b (by omega) (by omega) (by omega)) (Below.refl _ _) (fun _ => rfl)
    (fun pre W => ((∃ v, Boxed W w.heap.size 23 v ∧ W.ownsRow (w.heap.size + 6) 3 1 v pre.length (ci (pre.map fun x => atoV x.1.data.toList)) ∧ True) ∧ (Boxed W (w.heap.size + 1) 4 (.bool k1) ∧ (Boxed W (w.heap.size + 1 + 1) 25 (.int .i64 0) ∧ ∃ q, Boxed W (w.heap.size + 1 + 1 + 1) 9 q))) ∧ ((Hid ((wl pre).all canB = true)) ∧ Below w.heap.size W0 W))
    (fun c pre W => (c = .ret) ∧ ((Boxed W w.heap.size 23 (.slice none 0 0) ∧ (Boxed W (w.heap.size + 1) 4 (.bool false) ∧ Boxed W (w.heap.size + 1 + 1) 25 (.int .i64 15))) ∧ ((Hid ((wl pre).all canB = false)) ∧ Below w.heap.size W0 W)))
    (OwnFrom.and (OwnFrom.and (Own.from (holdsRow_own (w.heap.size + 6) w.heap.size 23 3 1 (fun pre : List Wd => pre.length) (fun pre => ci (pre.map fun x => atoV x.1.data.toList)) (fun _ _ => True)) _) (OwnFrom.and (Own.from (boxed_own _ _ _) _) (OwnFrom.and (Own.from (boxed_own _ _ _) _) (Own.from (boxedE_own _ _) _)))) (OwnFrom.and (ownFrom_pure _ _) (ownFrom_below (by omega) (by omega))))
    ?stay
    (fun c => OwnFrom.and (ownFrom_pure _ (fun _ => c = .ret)) (OwnFrom.and (OwnFrom.and (Own.from (boxed_own _ _ _) _) (OwnFrom.and (Own.from (boxed_own _ _ _) _) (Own.from (boxed_own _ _ _) _))) (OwnFrom.and (ownFrom_pure _ _) (ownFrom_below (by omega) (by omega)))))
    ⟨⟨⟨_, q1, World.ownsRow_nil _ _ _ _, trivial⟩, q2, q3, _, q4⟩, Lib.hid rfl, Below.refl _ _⟩
    (fun x => { tmps := #[.string s, undef, .pointer (some ⟨w.heap.size, 0, none⟩), .pointer (some ⟨w.heap.size + 1, 0, none⟩), .pointer (some ⟨w.heap.size + 1 + 1, 0, none⟩), .string u, .bool true, .string x.1, undef, undef, undef, .string s, .int .i64 s.size, .bool false, .tuple #[.string u, .bool k1, .bool true], .string s, .tuple #[.string u, .bool k1, .bool true], .string u, .bool k1, .bool true, .bool true, .bool false, .string u, .bool false, undef, .string u, .func (.func 53) #[] #[.pointer (some ⟨w.heap.size + 1 + 1 + 1 + 1, 0, none⟩), .pointer (some ⟨w.heap.size + 1 + 1 + 1, 0, none⟩), .pointer (some ⟨w.heap.size + 1 + 1 + 1 + 2, 0, none⟩)], .string x.1, undef, undef, undef, undef, undef, undef, undef, undef, undef, undef, undef, undef, undef, undef, undef, undef, undef, undef, undef], defers := [] }) ?assign ?body ?done ?stop
  case stay =>
    rintro pre A v ⟨⟨⟨v0, hv, hrow, -⟩, hb1, hb2, q, hq⟩, hall, hB⟩
    exact ⟨⟨⟨v0, hv.other (by omega) v, ownsRow_setCell_below hrow (by show w.heap.size + 1 + 1 + 1 < _; omega) v, trivial⟩, hb1.other (by omega) v, hb2.other (by omega) v, v, hq.set v⟩, hall, hB.setCell (p := ⟨w.heap.size + 1 + 1 + 1, 0, none⟩) (by show w.heap.size ≤ w.heap.size + 1 + 1 + 1; omega) v⟩
  case assign =>
    intro l x W K hK
    gi_wp2
    exact hK
  case body =>
    rintro l pre x W ⟨⟨⟨v, hv, hrow, -⟩, hb1, hb2, q, hq⟩, hall, hB0⟩ hpre
    have hB := q7.trans hB0
    have hszW0 := hB0.size
    have HB0 := Lib.hid hB0
    clear hB0
    have HCN := Lib.hid (can_any x.1 W (by have := x.2; omega))
    cases hcx : canB x.1.data.toList with
    | false =>
      rw [hcx] at HCN
      have HF := Lib.hid (show (wl (pre ++ [x])).all canB = false by rw [wl_snoc, List.all_append]; simp [hcx])
      have HQ := Lib.hid (show Boxed W w.heap.size 23 v ∧ Boxed W (w.heap.size + 1) 4 (.bool k1) ∧ Boxed W (w.heap.size + 1 + 1) 25 (.int .i64 0) ∧ Below w.heap.size w W from ⟨hv, hb1, hb2, hB⟩)
      clear hcx hv hrow hb1 hb2 hq hB hall
      gi_wp2_with (refine ⟨trivial, ?_⟩; gi_at_call 20; refine (CallsIn.inRound l (callsIn_wide.2 HCN.out)).mono ?_; rintro e w2 ⟨rfl, hb⟩; have R0 : R3 w w2 v k1 0 := R3.to (W := W) HQ.out hb; obtain ⟨x1, x2, x3, f1, f2, f3⟩ := R0.facts; have R1 := R0.set0 (.slice none 0 0); obtain ⟨y1, y2, y3, g1, g2, g3⟩ := R1.facts; have R2 := R1.set1 false; obtain ⟨z1, z2, z3, e1, e2, e3⟩ := R2.facts; have RH := Lib.hid (R2.set2 15); have HK := Lib.hid (keepsFrom_below (B := W0.heap.size) hb); have HKB := Lib.hid hb; clear R0 R1 R2 hb)
      exact ⟨((HK.out.trans ((KeepsOthers.setCell _ _ _).from _)).trans ((KeepsOthers.setCell _ _ _).from _)).trans ((KeepsOthers.setCell _ _ _).from _), rfl, ⟨RH.out.1, RH.out.2.1, RH.out.2.2.1⟩, HF, (((HB0.out.trans (HKB.out.mono (by omega))).setCell (p := ⟨w.heap.size, 0, none⟩) (Nat.le_refl _) _).setCell (p := ⟨w.heap.size + 1, 0, none⟩) (Nat.le_succ _) _).setCell (p := ⟨w.heap.size + 1 + 1, 0, none⟩) (by show _ ≤ w.heap.size + 1 + 1; omega) _⟩
    | true =>
      rw [hcx] at HCN
      have HF := Lib.hid (show (wl (pre ++ [x])).all canB = true by rw [wl_snoc, List.all_append, hall.out]; simp [hcx])
      have HQ := Lib.hid (show (Boxed W w.heap.size 23 v ∧ Boxed W (w.heap.size + 1) 4 (.bool k1) ∧ Boxed W (w.heap.size + 1 + 1) 25 (.int .i64 0) ∧ Below w.heap.size w W) ∧ Boxed W (w.heap.size + 1 + 1 + 1) 9 q ∧ W.ownsRow (w.heap.size + 6) 3 1 v pre.length (ci (pre.map fun x => atoV x.1.data.toList)) from ⟨⟨hv, hb1, hb2, hB⟩, hq, hrow⟩)
      have HA := Lib.hid (fun wx hwx => atoi_can x.1 wx hwx (by have := x.2; omega) hcx)
      have hatb := ato_bd x.1.data.toList
      obtain ⟨z, hz⟩ : ∃ z, z = atoV x.1.data.toList := ⟨_, rfl⟩
      rw [← hz] at HA hatb
      have HZ := Lib.hid hz
      have HSX := Lib.hid (HST.out.below hB)
      clear hcx hv hrow hb1 hb2 hq hB hall hz hatb
      gi_wp2_with (first
        | (refine ⟨trivial, ?_⟩; gi_at_call 20; refine (CallsIn.inRound l (callsIn_wide.2 HCN.out)).mono ?_; rintro e w2 ⟨rfl, hb⟩; have HB2 := Lib.hid hb; clear hb)
        | (refine ⟨trivial, ?_⟩; gi_at_call 21; refine (CallsIn.inRound l (callsIn_wide.2 (HA.out _ (HSX.out.below HB2.out)))).mono ?_; rintro e w3 ⟨v2, rfl, hb3⟩; have HB3 := Lib.hid (HB2.out.trans (hb3.mono HB2.out.size)); have R0 : R3 w w3 v k1 0 := R3.to (W := W) HQ.out.1 HB3.out; have hrow3 : w3.ownsRow (w.heap.size + 6) 3 1 v pre.length (ci (pre.map fun x => atoV x.1.data.toList)) := ownsRow_below HQ.out.2.2 HB3.out; have hsz3 := HB3.out.size; have x1 := R0.1.cell; have RH := Lib.hid R0; have HR3 := Lib.hid hrow3; clear R0 hrow3 hb3)
        | (gi_at_builtin; go_loud (refine wpListIn_append_own _ rfl _ _ 23 rfl (w.heap.size + 6) 3 i0 (.int .i64 0) 1 8 Tryz.underlying23 hi0 hz1 hz2 hz3 rfl (by decide) _ _ _ rfl (HR3.out.alloc _) ⟨w3.heap.size, 0, none⟩ 1 1 [.int .i64 z] rfl rfl (cell_one_new _ _ _) (by simp [Value.oneCell']) (by unfold maxLen; omega) (by omega) (by simp; omega) ?_; intro v' w1' hown' hgrow _; obtain ⟨g', cap2, rfl⟩ := ownsRow_succ hown'; obtain ⟨hv1, hv2, hr2, hk2, hb2⟩ := RH.out.1.appended (by decide) (ownsRow_low HR3.out (Nat.le_add_right _ 6)) (by omega) (Nat.le_refl _) (ownsRow_low hown' (Nat.le_add_right _ 6)) hgrow; have hc1 := hv1.cell; have hf1 := hv1.frozen; have HG := Lib.hid (grow_low HR3.out hgrow); have HX2 := Lib.hid hv2; have HOW := Lib.hid hown'; have HK2 := Lib.hid hk2; have HBB := Lib.hid hb2; clear hv1 hv2 hr2 hk2 hb2 hown')))
      have hq2 := HQ.out
      have e1 : ∀ b, b < w.heap.size + 6 → b ≠ w.heap.size → (w1'.setCell ⟨w.heap.size, 0, none⟩ (.slice (some ⟨g', 0, none⟩) (pre.length + 1) cap2)).heap[b]? = W.heap[b]? := by
        intro b hb hne
        rw [Below.heap_setCell _ _ _ _ hne, HG.out b hb (by omega), HB3.out.block b (by omega)]
      refine ⟨(keepsFrom_below (B := W0.heap.size) HB3.out).trans (HK2.out.from _), ⟨e1 _ (by omega) (by omega), e1 _ (by omega) (by omega), e1 _ (by omega) (by omega)⟩, ⟨⟨_, HX2.out, ?_, trivial⟩, (e1 _ (by omega) (by omega)).trans hq2.1.2.1, (e1 _ (by omega) (by omega)).trans hq2.1.2.2.1, q, (e1 _ (by omega) (by omega)).trans hq2.2.1⟩, HF, HB0.out.trans ((HB3.out.mono (by omega)).trans HBB.out)⟩
      have hfin := ownsRow_setCell_below HOW.out (a := ⟨w.heap.size, 0, none⟩) (by show w.heap.size < _; omega) (.slice (some ⟨g', 0, none⟩) (pre.length + 1) cap2)
      have hlist : ci (pre.map fun x => atoV x.1.data.toList) ++ [.int .i64 z] = ci ((pre ++ [x]).map fun x => atoV x.1.data.toList) := by rw [List.map_append, HZ.out]; simp [ci]
      have hlen : (pre ++ [x]).length = pre.length + 1 := by simp
      rw [hlen, ← hlist]
      exact hfin
  case done =>
    rintro D zs W hD hS ⟨⟨⟨v, hv, hrow, -⟩, hb1, hb2, q, hq⟩, hall, hB0⟩ hK
    have hB := q7.trans hB0
    have hmap : zs.map (fun x => atoV x.1.data.toList) = (wordsL u.data.toList).map atoV := by rw [← hS]; unfold wl; rw [List.map_map]; rfl
    rw [hmap] at hrow
    rw [hS] at hall
    obtain ⟨ar, cr, rfl, hrd⟩ := Rd.of_owns hrow (by rw [← hmap, List.length_map]) (fun z hz => by obtain ⟨y, -, rfl⟩ := List.mem_map.1 hz; exact ato_bd y)
    have R0 : R3 w W (.slice ar zs.length cr) k1 0 := ⟨hv, hb1, hb2, hB⟩
    have HCK := Lib.hid (checkN_any ar zs.length cr _ W hrd)
    have hcr := hrd.cap
    have HROW := Lib.hid hrow
    have HZL := Lib.hid (show ((wordsL u.data.toList).map atoV).length = zs.length by rw [← hmap, List.length_map])
    have hDs : D < W.heap.size := (Array.getElem?_eq_some_iff.1 hK).1
    have hKc : ∀ (V : World) (o : Obj), W.heap.size ≤ V.heap.size → True := fun _ _ _ => trivial
    clear hrow hv hb1 hb2 hq hmap hS hrd hKc
    cases ok : okB ((wordsL u.data.toList).map atoV) with
    | false =>
      rw [errR_no ok] at HCK
      have R1 := R0.set0 (.slice none 0 0)
      have R2 := R1.set1 false
      have R3' := R2.set2 4
      obtain ⟨x1, x2, x3, f1, f2, f3⟩ := R0.facts
      obtain ⟨y1, y2, y3, g1, g2, g3⟩ := R1.facts
      obtain ⟨z1, z2, z3, e1, e2, e3⟩ := R2.facts
      have RH := Lib.hid R3'
      have OK := Lib.hid ok
      have hK1 : (((W.setCell ⟨w.heap.size, 0, none⟩ (.slice none 0 0)).setCell ⟨w.heap.size + 1, 0, none⟩ (.bool false)).setCell ⟨w.heap.size + 1 + 1, 0, none⟩ (.int .i64 4)).heap[D]? = some (.deferred (some [])) := by
        rw [Below.heap_setCell _ _ _ _ (by show D ≠ w.heap.size + 1 + 1; omega), Below.heap_setCell _ _ _ _ (by show D ≠ w.heap.size + 1; omega), Below.heap_setCell _ _ _ _ (by show D ≠ w.heap.size; omega)]
        exact hK
      have HK1 := Lib.hid hK1
      clear R0 R1 R2 R3' ok hK1 hK
      gi_wp2_with (refine ⟨trivial, ?_⟩; gi_at_call 15; refine (callsIn_wide.2 HCK.out).mono ?_; rintro e w' ⟨rfl, hw⟩; obtain rfl := hw)
      refine ⟨by simp, .inl ⟨_, _, rfl, run_takeDeferred HK1.out, ?_⟩⟩
      have hR := RH.out.put (o' := .deferred none) HK1.out (by omega)
      obtain ⟨a1, a2, a3, -, -, -⟩ := hR.facts
      refine ⟨.tuple #[.slice none 0 0, .bool false, .int .i64 4], by simp [results, Tryz.f8, go_sem, *], ?_⟩
      unfold ParW
      rw [if_pos hall.out, if_neg (by rw [OK.out]; simp)]
      exact ⟨none, 0, 0, rfl, Rd.nil _, hR.2.2.2⟩
    | true =>
      rw [errR_ok ok] at HCK
      have OK := Lib.hid ok
      have R1 := R0.set0 (.slice ar zs.length cr)
      have R2 := R1.set1 k1
      have R3' := R2.set2 0
      obtain ⟨x1, x2, x3, f1, f2, f3⟩ := R0.facts
      obtain ⟨y1, y2, y3, g1, g2, g3⟩ := R1.facts
      obtain ⟨z1, z2, z3, e1, e2, e3⟩ := R2.facts
      have RH := Lib.hid R3'
      have hK1 : ((((W.setCell ⟨w.heap.size, 0, none⟩ (.slice ar zs.length cr)).setCell ⟨w.heap.size + 1, 0, none⟩ (.bool k1)).setCell ⟨w.heap.size + 1 + 1, 0, none⟩ (.int .i64 0)).drew).heap[D]? = some (.deferred (some [])) := by
        show (((W.setCell ⟨w.heap.size, 0, none⟩ (.slice ar zs.length cr)).setCell ⟨w.heap.size + 1, 0, none⟩ (.bool k1)).setCell ⟨w.heap.size + 1 + 1, 0, none⟩ (.int .i64 0)).heap[D]? = _
        rw [Below.heap_setCell _ _ _ _ (by show D ≠ w.heap.size + 1 + 1; omega), Below.heap_setCell _ _ _ _ (by show D ≠ w.heap.size + 1; omega), Below.heap_setCell _ _ _ _ (by show D ≠ w.heap.size; omega)]
        exact hK
      have HK1 := Lib.hid hK1
      clear R0 R1 R2 R3' ok hK1 hK
      gi_wp2_with (refine ⟨trivial, ?_⟩; gi_at_call 15; refine (callsIn_wide.2 HCK.out).mono ?_; rintro e w' ⟨rfl, hw⟩; obtain rfl := hw)
      gi_region
      all_goals
        gi_wp2
        refine ⟨by simp, .inl ⟨_, _, rfl, run_takeDeferred HK1.out, ?_⟩⟩
        have hR := RH.out.drew.put (o' := .deferred none) HK1.out (by omega)
        obtain ⟨a1, a2, a3, -, -, -⟩ := hR.facts
        have hO := ownsRow_putObj (ownsRow_drew (ownsRow_setCell_below (ownsRow_setCell_below (ownsRow_setCell_below HROW.out (a := ⟨w.heap.size, 0, none⟩) (by show w.heap.size < _; omega) (.slice ar zs.length cr)) (a := ⟨w.heap.size + 1, 0, none⟩) (by show w.heap.size + 1 < _; omega) (.bool k1)) (a := ⟨w.heap.size + 1 + 1, 0, none⟩) (by show w.heap.size + 1 + 1 < _; omega) (.int .i64 0))) (.deferred none) HK1.out rfl
        obtain ⟨a', c', e', hr'⟩ := Rd.of_owns hO HZL.out (fun z hz => by obtain ⟨y, -, rfl⟩ := List.mem_map.1 hz; exact ato_bd y)
        cases e'
        refine ⟨.tuple #[.slice ar zs.length cr, .bool k1, .int .i64 0], by simp [results, Tryz.f8, go_sem, *], ?_⟩
        unfold ParW
        rw [if_pos hall.out, if_pos OK.out]
        exact ⟨ar, zs.length, cr, rfl, hr', hR.2.2.2⟩
  case stop =>
    rintro D c pre W hD ⟨r, hr⟩ ⟨rfl, ⟨hb0, hb1, hb2⟩, HF, hB0⟩ hK
    have HN := Lib.hid (show ¬ (wordsL u.data.toList).all canB = true by rw [← hr, List.all_append, HF.out]; simp)
    have hR : R3 w (W.putObj D (.deferred none)) (.slice none 0 0) false 15 := ⟨hb0.kept (grownBy_putObj' _ _ _) (by simp; omega), hb1.kept (grownBy_putObj' _ _ _) (by simp; omega), hb2.kept (grownBy_putObj' _ _ _) (by simp; omega), (q7.trans hB0).trans (belowK_b (w := w) (Nat.le_refl _) W D _ (.deferred none) (by omega) hK rfl rfl)⟩
    obtain ⟨x1, x2, x3, -, -, -⟩ := hR.facts
    have HR := Lib.hid hR
    clear hR hb0 hb1 hb2
    gi_wp2
    refine ⟨by simp, .inl ⟨_, _, rfl, run_takeDeferred hK, ?_⟩⟩
    refine ⟨.tuple #[.slice none 0 0, .bool false, .int .i64 15], by simp [results, Tryz.f8, go_sem, *], ?_⟩
    unfold ParW
    rw [if_neg HN.out]
    exact ⟨none, 0, 0, rfl, Rd.nil _, HR.out.2.2.2⟩
theorem parN_any (s : ByteArray) (w : World) (hw : StdP w) (h : s.size ≤ 65536) :
    Calls Tryz.prog 8 #[.string s] w (ParP (parM s.data.toList).1 (parM s.data.toList).2.1 (parM s.data.toList).2.2 w) := by
  obtain ⟨u1, k1, b1, hu⟩ : ∃ u k b, unwL s.data.toList = (u, k, b) := ⟨_, _, _, rfl⟩
  cases hb : b1 with
  | false =>
    rw [hb] at hu
    have e : parM s.data.toList = ([], false, 15) := by unfold parM; rw [hu]; rfl
    rw [e]
    exact parN_no s w h (by rw [hu])
  | true =>
    rw [hb] at hu
    by_cases h0 : u1 = []
    · subst h0
      have e : parM s.data.toList = ([], k1, 0) := by unfold parM; rw [hu]; rfl
      rw [e]
      exact parN_empty s w k1 h hu
    · obtain ⟨u, hu2⟩ : ∃ u : ByteArray, u.data.toList = u1 := ⟨⟨u1.toArray⟩, by simp⟩
      subst hu2
      refine (parN_words s w hw u k1 h hu h0).mono fun e w' hp => ?_
      unfold ParW at hp
      have e : parM s.data.toList = if (wordsL u.data.toList).all canB = true then (if okB ((wordsL u.data.toList).map intV) = true then ((wordsL u.data.toList).map intV, k1, 0) else ([], false, 4)) else ([], false, 15) := by
        unfold parM; rw [hu]; simp only; rw [if_neg (by decide), if_neg h0]
      rw [e]
      by_cases hc : (wordsL u.data.toList).all canB = true
      · obtain ⟨o1, o2⟩ := ok_map hc
        rw [if_pos hc] at hp ⊢
        rw [o1] at hp
        by_cases ho : okB ((wordsL u.data.toList).map intV) = true
        · rw [if_pos ho] at hp ⊢
          rw [o2 ho] at hp; exact hp
        · rw [if_neg ho] at hp ⊢; exact hp
      · rw [if_neg hc] at hp ⊢; exact hp
end Go.Proofs.YtkpaopfdnfgjeaaGreatDoor
