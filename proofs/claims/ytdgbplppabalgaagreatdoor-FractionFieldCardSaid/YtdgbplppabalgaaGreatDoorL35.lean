/-
  Texts of one seat, joined: YBatch YTri.
-/
import Derived.OrdersHeld
import Derived.Deep.RegionHeld
import Derived.Test.YtdgbplppabalgaaGreatDoorL38
namespace Go.Proofs.YtdgbplppabalgaaGreatDoor.Batch
open Go

section
variable {P : Program} {ops : Array Oper} {Q : Exit → Act → World → Prop} {md : Region.Mode} {S : World → Prop}

/-- In every world that meets S, operation 'o' yields v in the frame a, and S holds behind it. -/
def Runs (P : Program) (S : World → Prop) (o : Oper) (v : Value) (a : Act) : Prop :=
  ∀ w, S w → (∃ w', (execOp a.eval o).run P w = .ok (.value v) w' ∧ S w') ∨
    (∃ w', (execOp a.eval o).run P w = .ok .skip w' ∧ v = undef ∧ S w') ∨
    (∃ f args w', (execOp a.eval o).run P w = .ok (.enter f args) w' ∧ Calls P f args w' fun e w'' => e = .returned v ∧ S w'')

/-- The same, or it is passed over by its guard. -/
def Does (P : Program) (ops : Array Oper) (S : World → Prop) (o : Oper) (v : Value) (a : Act) : Prop :=
  (Region.wanted o (yielded ops a.tmps) = true ∧ Runs P S o v a) ∨ (Region.wanted o (yielded ops a.tmps) = false ∧ v = undef)

theorem Does.of_same {o : Oper} {v : Value} {a a' : Act} (hy : Does P ops S o v a) (he : execOp a'.eval o = execOp a.eval o)
    (hw : Region.wanted o (yielded ops a'.tmps) = Region.wanted o (yielded ops a.tmps)) : Does P ops S o v a' := by
  unfold Does Runs at *
  rw [he, hw]
  exact hy

theorem Does.put {o : Oper} {v : Value} {a : Act} {dst : Option Tmp} {u : Value} (hs : ∀ cs b, o.op ≠ .select cs b)
    (h : ∀ d, dst = some d → d ∉ o.looksAt ops) : Does P ops S o v (a.put dst u) ↔ Does P ops S o v a :=
  ⟨fun hd => hd.of_same (execOp_put o hs a dst u h).symm (wanted_put o a dst u h).symm, fun hd => hd.of_same (execOp_put o hs a dst u h) (wanted_put o a dst u h)⟩

theorem Does.wpOp {i : Nat} {o : Oper} {v : Value} {a : Act} (hi : ops[i]? = some o) (hd : Does P ops S o v a) {w : World} (hS : S w)
    {K : Act → World → Prop} (h : ∀ w', S w' → K (a.put o.dst v) w') : wpOp P ops Q i K a w := by
  unfold Go.wpOp
  simp only [hi]
  rcases hd with ⟨hw, hr⟩ | ⟨hw, rfl⟩
  · simp only [hw, if_true]
    refine .inl ?_
    unfold Oper.wp
    rcases hr w hS with ⟨w', e, hS'⟩ | ⟨w', e, rfl, hS'⟩ | ⟨f, args, w', e, hc⟩
    · rw [e]; exact h w' hS'
    · rw [e]; exact h w' hS'
    · rw [e]; exact Calls.mono hc (fun x w'' hx => by obtain ⟨rfl, hx⟩ := hx; exact h w'' hx)
  · simp only [hw, Bool.false_eq_true, if_false]
    exact h w hS

/-- From here on every operation that may come up does one thing, whatever came up before. -/
def wpDet (P : Program) (md : Region.Mode) (ops : Array Oper) (Q : Exit → Act → World → Prop) (S : World → Prop) : Nat → Array Bool → Act → Prop
  | 0, listed, a => Region.ready md ops listed = [] ∧ ∀ w, S w → Q .normal a w
  | fuel + 1, listed, a => (Region.ready md ops listed = [] → ∀ w, S w → Q .normal a w) ∧
    ∀ i ∈ Region.ready md ops listed, ∃ o v, ops[i]? = some o ∧ Does P ops S o v a ∧ wpDet P md ops Q S fuel (listed.setIfInBounds i true) (a.put o.dst v)

theorem wpAny_of_det : ∀ (fuel : Nat) (listed : Array Bool) (a : Act), wpDet P md ops Q S fuel listed a → ∀ w, S w → wpAny P md ops Q fuel listed a w
  | 0, _, _, h, w, hS => ⟨h.1, h.2 w hS⟩
  | fuel + 1, _, _, h, w, hS => ⟨fun h0 => h.1 h0 w hS, fun i hi => by
      obtain ⟨o, v, ho, hd, hr⟩ := h.2 i hi
      exact hd.wpOp ho hS (fun w' hS' => wpAny_of_det fuel _ _ hr w' hS')⟩

theorem det_first {i : Nat} {oi : Oper} {v : Value} (hi : ops[i]? = some oi) (hsel : ∀ (j : Nat) (o : Oper) cs b, ops[j]? = some o → o.op ≠ .select cs b) :
    ∀ (fuel : Nat) (listed : Array Bool) (a : Act),
      (∀ j oj, ops[j]? = some oj → j ≠ i → listed.getD j true = false → (∀ e ∈ oj.after, Region.binds md e = true → e.on ≠ i) → oi.apart ops oj = true) →
      i ∈ Region.ready md ops listed → Does P ops S oi v a →
      wpDet P md ops Q S fuel (listed.setIfInBounds i true) (a.put oi.dst v) → wpDet P md ops Q S (fuel + 1) listed a := by
  intro fuel
  induction fuel with
  | zero =>
    intro listed a _ hr hy H
    refine ⟨fun h => (by rw [h] at hr; cases hr), fun j hj => ?_⟩
    by_cases hji : j = i
    · subst hji; exact ⟨oi, v, hi, hy, H⟩
    · have := ready_mono hj hji
      rw [H.1] at this
      cases this
  | succ fuel ih =>
    intro listed a hfree hr hy H
    refine ⟨fun h => (by rw [h] at hr; cases hr), fun j hj => ?_⟩
    by_cases hji : j = i
    · subst hji; exact ⟨oi, v, hi, hy, H⟩
    · obtain ⟨oj', u, hoj', hdj, hrj⟩ := H.2 j (ready_mono hj hji)
      obtain ⟨hjun, oj, hoj, hall⟩ := mem_ready.1 hj
      obtain rfl : oj' = oj := by rw [hoj] at hoj'; exact (Option.some.inj hoj').symm
      have hnot : ∀ e ∈ oj'.after, Region.binds md e = true → e.on ≠ i := fun e he hb heq => by
        have h1 := hall e he hb
        have h0 := (mem_ready.1 hr).1
        rw [heq] at h1
        rcases Nat.lt_or_ge i listed.size with h' | h'
        · simp [h'] at h0 h1; rw [h0] at h1; cases h1
        · simp [Array.getElem?_eq_none h'] at h1
      obtain ⟨h1, h2, h3⟩ := Oper.apart_spec (hfree j oj' hoj hji hjun hnot)
      refine ⟨oj', u, hoj, (Does.put (fun cs b => hsel j oj' cs b hoj) h1).1 hdj, ?_⟩
      have hfree' : ∀ k ok, ops[k]? = some ok → k ≠ i → (listed.setIfInBounds j true).getD k true = false →
          (∀ e ∈ ok.after, Region.binds md e = true → e.on ≠ i) → oi.apart ops ok = true := fun k ok hk hki hun hno => by
        refine hfree k ok hk hki ?_ hno
        by_cases hjk : j = k
        · subst hjk; exact hjun
        · rw [getD_set_ne true hjk] at hun; exact hun
      refine ih (listed.setIfInBounds j true) (a.put oj'.dst u) hfree' (ready_mono hr (Ne.symm hji)) ((Does.put (fun cs b => hsel i oi cs b hi) h3).2 hy) ?_
      rw [Array.setIfInBounds_comm _ _ hji, ← Act.put_comm a v u h2]
      exact hrj

/-- An operation that may come up is taken. -/
theorem det_take (i : Nat) {oi : Oper} {v : Value} {fuel : Nat} {listed : Array Bool} {a : Act} (hi : ops[i]? = some oi)
    (hs : Region.noSelect ops = true) (hf : Region.free md ops listed i = true) (hr : (Region.ready md ops listed).contains i = true)
    (hd : Does P ops S oi v a) (h : wpDet P md ops Q S fuel (listed.setIfInBounds i true) (a.put oi.dst v)) : wpDet P md ops Q S (fuel + 1) listed a :=
  det_first hi (Region.noSelect_spec hs) fuel listed a (Region.free_spec hi hf) (by simpa using hr) hd h

/-- It yields its value and leaves the world. -/
theorem Does.val {o : Oper} {v : Value} {a : Act} (hw : Region.wanted o (yielded ops a.tmps) = true)
    (h : ∀ w, S w → (execOp a.eval o).run P w = .ok (.value v) w) : Does P ops S o v a := .inl ⟨hw, fun w hS => .inl ⟨w, h w hS, hS⟩⟩
/-- It is a call, met by a contract. -/
theorem Does.call {o : Oper} {v : Value} {a : Act} {f : FuncId} {args : Array Value} (hw : Region.wanted o (yielded ops a.tmps) = true)
    (h : ∀ w, S w → (execOp a.eval o).run P w = .ok (.enter f args) w) (hc : ∀ w, S w → Calls P f args w fun e w' => e = .returned v ∧ S w') :
    Does P ops S o v a := .inl ⟨hw, fun w hS => .inr (.inr ⟨f, args, w, h w hS, hc w hS⟩)⟩
/-- It is passed over. -/
theorem Does.pass {o : Oper} {a : Act} (hw : Region.wanted o (yielded ops a.tmps) = false) : Does P ops S o undef a := .inr ⟨hw, rfl⟩

theorem det_done {listed : Array Bool} {a : Act} (hr : Region.ready md ops listed = []) (h : ∀ w, S w → Q .normal a w) : ∀ fuel, wpDet P md ops Q S fuel listed a
  | 0 => ⟨hr, h⟩
  | _ + 1 => ⟨fun _ => h, by rw [hr]; simp⟩

/-- The beginning. -/
theorem wp_region_det {id : Nat} {a : Act} {w : World} (hm : P.follows .mixedOrders = true) (hS : S w.drew)
    (h : wpDet P .any ops Q S ops.size (Array.replicate ops.size false) a) : (Code.region id ops true).wp P Q a w :=
  wp_region_any hm (wpAny_of_det _ _ _ h _ hS)

/-! ### With facts in the place of values -/

/-- How many operations have not come up yet. -/
def still (ops : Array Oper) (listed : Array Bool) : Nat := (List.range ops.size).countP fun i => !listed.getD i true

/-- An operation waits for earlier ones alone. -/
def topo (md : Region.Mode) (ops : Array Oper) : Bool :=
  (List.range ops.size).all fun i => ((ops[i]?).map (·.after.all fun e => !Region.binds md e || decide (e.on < i))).getD true

theorem topo_spec (h : topo md ops = true) {i : Nat} {o : Oper} (ho : ops[i]? = some o) : ∀ e ∈ o.after, Region.binds md e = true → e.on < i := by
  intro e he hb
  have hlt : i < ops.size := (Array.getElem?_eq_some_iff.1 ho).1
  have h1 := List.all_eq_true.1 h i (List.mem_range.2 hlt)
  rw [ho] at h1
  simp only [Option.map_some, Option.getD_some, Array.all_eq_true_iff_forall_mem] at h1
  have h2 := h1 e he
  simpa [hb] using h2

theorem still_set {listed : Array Bool} {i : Nat} (hi : i < ops.size) (h : listed.getD i true = false) : still ops (listed.setIfInBounds i true) < still ops listed := by
  unfold still
  obtain ⟨l1, l2, hl⟩ := List.append_of_mem (List.mem_range.2 hi)
  rw [hl]
  simp only [List.countP_append, List.countP_cons]
  have key : ∀ l : List Nat, l.countP (fun k => !(listed.setIfInBounds i true).getD k true) ≤ l.countP (fun k => !listed.getD k true) := fun l => by
    refine List.countP_mono_left (fun k _ hk => ?_)
    by_cases hik : i = k
    · subst hik; rw [h]; rfl
    · rw [getD_set_ne true hik] at hk; exact hk
  have a1 := key l1
  have a2 := key l2
  have a3 : (listed.setIfInBounds i true).getD i true = true := by
    rcases Nat.lt_or_ge i listed.size with h' | h'
    · simp [h']
    · simp [Array.getElem?_eq_none h'] at h
  rw [h, a3]
  simp only [Bool.not_true, Bool.not_false, Bool.false_eq_true, if_false, if_true]
  omega

/-- Nothing may come up: all has come up. -/
theorem all_listed (ht : topo md ops = true) {listed : Array Bool} (hr : Region.ready md ops listed = []) : ∀ i, i < ops.size → listed.getD i true = true := by
  intro i
  induction i using Nat.strongRecOn with
  | ind i ih =>
    intro hi
    cases hc : listed.getD i true
    · exfalso
      have : i ∈ Region.ready md ops listed := mem_ready.2 ⟨hc, ops[i], by simp [hi], fun e he hb => by
        have hlt := topo_spec ht (i := i) (o := ops[i]) (by simp [hi]) e he hb
        have h1 := ih e.on hlt (by omega)
        rcases Nat.lt_or_ge e.on listed.size with h' | h'
        · simp [h'] at h1 ⊢; exact h1
        · have : listed.getD i true = true := by simp [Array.getElem?_eq_none (show listed.size ≤ i by omega)]
          rw [this] at hc; cases hc⟩
      rw [hr] at this; cases this
    · rfl

/-- **One invariant for the whole region**: I of what has come up, of the frame and of the world. -/
theorem wpAny_inv {I : (Nat → Bool) → Act → World → Prop} (ht : topo md ops = true)
    (step : ∀ i o, ops[i]? = some o → ∀ (D : Nat → Bool) a w, D i = false → (∀ e ∈ o.after, Region.binds md e = true → D e.on = true) → I D a w →
      wpOp P ops Q i (fun a' w' => I (fun k => k == i || D k) a' w') a w)
    (fin : ∀ D a w, (∀ i, i < ops.size → D i = true) → I D a w → Q .normal a w) :
    ∀ (fuel : Nat) (listed : Array Bool) (a : Act) (w : World), still ops listed ≤ fuel → listed.size = ops.size → I (fun k => listed.getD k true) a w →
      wpAny P md ops Q fuel listed a w := by
  have move : ∀ (listed : Array Bool) (i : Nat), (fun k => k == i || listed.getD k true) = fun k => (listed.setIfInBounds i true).getD k true := fun listed i => by
    funext k
    by_cases hik : i = k
    · subst hik
      rcases Nat.lt_or_ge i listed.size with h' | h'
      · simp [h']
      · simp [Array.getElem?_eq_none h']
    · rw [getD_set_ne true hik]
      have : (k == i) = false := by simpa using fun h => hik h.symm
      rw [this]; rfl
  intro fuel
  induction fuel with
  | zero =>
    intro listed a w hs _ hI
    have hall : ∀ i, i < ops.size → listed.getD i true = true := fun i hi => by
      cases hc : listed.getD i true
      · have := still_set hi hc; omega
      · rfl
    refine ⟨?_, fin _ a w hall hI⟩
    rw [List.eq_nil_iff_forall_not_mem]
    intro i hi
    obtain ⟨h0, o, ho, _⟩ := mem_ready.1 hi
    rw [hall i (Array.getElem?_eq_some_iff.1 ho).1] at h0
    cases h0
  | succ fuel ih =>
    intro listed a w hs hz hI
    refine ⟨fun hr => fin _ a w (all_listed ht hr) hI, fun i hi => ?_⟩
    obtain ⟨h0, o, ho, hall⟩ := mem_ready.1 hi
    refine wpOp_mono (fun a' w' hI' => ih _ a' w' ?_ (by simpa using hz) (by rw [← move]; exact hI')) (step i o ho _ a w h0 (fun e he hb => ?_) hI)
    · have := still_set (Array.getElem?_eq_some_iff.1 ho).1 h0; omega
    · have h1 := hall e he hb
      rcases Nat.lt_or_ge e.on listed.size with h' | h'
      · simp [h'] at h1 ⊢; exact h1
      · simp [Array.getElem?_eq_none h']

/-- All of these have come up. -/
def alls (D : Nat → Bool) : List Nat → Prop
  | [] => True
  | k :: l => D k = true ∧ alls D l
/-- What an operation waits for. -/
def waits (md : Region.Mode) (o : Oper) : List Nat := (o.after.toList.filter fun e => Region.binds md e).map (·.on)
theorem alls_waits {D : Nat → Bool} {o : Oper} (h : ∀ e ∈ o.after, Region.binds md e = true → D e.on = true) : alls D (waits md o) := by
  have key : ∀ l : List Nat, (∀ k ∈ l, D k = true) → alls D l := fun l => by
    induction l with
    | nil => intro _; trivial
    | cons k l ih => intro h; exact ⟨h k (by simp), ih fun k' hk => h k' (by simp [hk])⟩
  refine key _ fun k hk => ?_
  unfold waits at hk
  obtain ⟨e, he, rfl⟩ := List.mem_map.1 hk
  rw [List.mem_filter] at he
  exact h e (by simpa using he.1) he.2

theorem alls_has {D : Nat → Bool} {k : Nat} : ∀ {l : List Nat}, alls D l → l.contains k = true → D k = true
  | [], _, h => by simp at h
  | j :: l, hd, h => by
    simp only [List.contains_cons, Bool.or_eq_true, beq_iff_eq] at h
    rcases h with rfl | h
    · exact hd.1
    · exact alls_has hd.2 h

/-- The steps of an invariant, for a list of operations. -/
def StepsI (P : Program) (md : Region.Mode) (ops : Array Oper) (Q : Exit → Act → World → Prop) (I : (Nat → Bool) → Act → World → Prop) (rs : List Nat) : Prop :=
  ∀ i ∈ rs, ∀ o, ops[i]? = some o → ∀ (D : Nat → Bool) a w, D i = false → (∀ e ∈ o.after, Region.binds md e = true → D e.on = true) → I D a w →
      wpOp P ops Q i (fun a' w' => I (fun k => k == i || D k) a' w') a w
theorem StepsI.nil {I : (Nat → Bool) → Act → World → Prop} : StepsI P md ops Q I [] := fun _ h => by cases h
theorem StepsI.cons {I : (Nat → Bool) → Act → World → Prop} {i : Nat} {o : Oper} {l : List Nat} {rs : List Nat} (ho : ops[i]? = some o) (hl : waits md o = l)
    (h : ∀ (D : Nat → Bool) a w (K : Act → World → Prop), D i = false → Shut (alls D l) → Shut (I D a w) → Shut (∀ a' w', I (fun k => k == i || D k) a' w' → K a' w') →
      if Region.wanted o (yielded ops a.tmps) = true then o.wp P a w K Q else K (a.put o.dst undef) w) (hs : StepsI P md ops Q I rs) : StepsI P md ops Q I (i :: rs) := by
  intro j hj
  rcases List.mem_cons.1 hj with rfl | hj
  · intro o' ho' D a w hD hpre hI
    obtain rfl : o' = o := by rw [ho] at ho'; exact (Option.some.inj ho').symm
    subst hl
    have h1 := h D a w _ hD (alls_waits hpre) hI (fun _ _ h => h)
    unfold Go.wpOp
    simp only [ho]
    split
    · rename_i hw; rw [if_pos hw] at h1; exact .inl h1
    · rename_i hw; rw [if_neg hw] at h1; exact h1
  · exact hs j hj
/-- The beginning, with an invariant that may name the frame at the beginning. -/
theorem wp_region_inv {J : Act → (Nat → Bool) → Act → World → Prop} {id : Nat} {a : Act} {w : World} {rs : List Nat} (hm : P.follows .mixedOrders = true) (ht : topo .any ops = true)
    (hrs : List.range ops.size = rs) (h0 : ∀ D : Nat → Bool, (∀ k ∈ rs, D k = false) → J a D a w.drew) (hs : StepsI P .any ops Q (J a) rs)
    (fin : ∀ D a' w', (∀ i ∈ rs, D i = true) → Shut (J a D a' w') → Q .normal a' w') : (Code.region id ops true).wp P Q a w := by
  subst hrs
  refine wp_region_any hm (wpAny_inv ht (fun i o ho => hs i (List.mem_range.2 (Array.getElem?_eq_some_iff.1 ho).1) o ho)
    (fun D a w hD hI => fin D a w (fun i hi => hD i (List.mem_range.1 hi)) hI) _ _ a _ ?_ (by simp) (h0 _ fun k hk => ?_))
  · unfold still; exact Nat.le_trans (List.countP_le_length) (by simp)
  · have := List.mem_range.1 hk; simp [this]

end
end Go.Proofs.YtdgbplppabalgaaGreatDoor.Batch

namespace Go.Proofs.YtdgbplppabalgaaGreatDoor
open Go.RowKit

/-- slots filled -/
def Batch.lay (a : Act) (l : List (Tmp × Value)) : Act := l.foldl (fun a p => a.put (some p.1) p.2) a
/-- the variable made by operation ia, its value by the call ic, stored by is -/
structure Tri (D : Nat → Bool) (ia ic is B : Nat) (T : TypeId) (p q : ByteArray) (va vc : Value) (g : Nat) (wx : World) : Prop where
  ptr : D ia = true → va = .pointer (some ⟨g, 0, none⟩)
  val : D ic = true → vc = ratV p q
  ord : D is = true → D ia = true
  new : D ia = true → D is = false → BxT wx B g T (.string ⟨#[]⟩) (.string ⟨#[]⟩)
  full : D is = true → BxT wx B g T (.string p) (.string q)
section
variable {D : Nat → Bool} {ia ic is B : Nat} {T : TypeId} {p q : ByteArray} {va vc : Value} {g : Nat} {wx wy : World}
theorem Tri.init (h1 : D ia = false) (h2 : D ic = false) (h3 : D is = false) : Tri D ia ic is B T p q va vc g wx :=
  ⟨fun h => (by rw [h1] at h; cases h), fun h => (by rw [h2] at h; cases h), fun h => (by rw [h3] at h; cases h), fun h => (by rw [h1] at h; cases h), fun h => (by rw [h3] at h; cases h)⟩
theorem Tri.lt (h : Tri D ia ic is B T p q va vc g wx) (ha : D ia = true) : B ≤ g ∧ g < wx.heap.size := by
  cases hs : D is
  · exact (h.new ha hs).lt
  · exact (h.full hs).lt
theorem ne_beq {i j : Nat} (h : i ≠ j) : (i == j) = false := by simpa using h
theorem Tri.keep (h : Tri D ia ic is B T p q va vc g wx) (j : Nat) (h1 : ia ≠ j) (h2 : ic ≠ j) (h3 : is ≠ j)
    (hk : D ia = true → ∀ u v, BxT wx B g T u v → BxT wy B g T u v) : Tri (fun k => k == j || D k) ia ic is B T p q va vc g wy := by
  refine ⟨fun x => h.ptr ?_, fun x => h.val ?_, fun x => ?_, fun x y => hk ?_ _ _ (h.new ?_ ?_), fun x => hk (h.ord ?_) _ _ (h.full ?_)⟩ <;> simp only [ne_beq h1, ne_beq h2, ne_beq h3, Bool.false_or] at * <;> first | assumption | exact h.ord x
theorem Tri.alloc (h : Tri D ia ic is B T p q va vc g wx) (ha : D ia = false) (h2 : ic ≠ ia) (h3 : is ≠ ia) (hB : B ≤ wx.heap.size) :
    Tri (fun k => k == ia || D k) ia ic is B T p q (.pointer (some ⟨wx.heap.size, 0, none⟩)) vc wx.heap.size (wx.alloc (.cells #[.string ⟨#[]⟩, .string ⟨#[]⟩] T)) := by
  have no : D is = true → False := fun x => by rw [h.ord x] at ha; cases ha
  refine ⟨fun _ => rfl, fun x => h.val ?_, fun _ => ?_, fun _ _ => BxT.new wx B hB T _ _, fun x => (no ?_).elim⟩
  · simpa only [ne_beq h2, Bool.false_or] using x
  · simp
  · simpa only [ne_beq h3, Bool.false_or] using x
theorem Tri.call (h : Tri D ia ic is B T p q va vc g wx) (h1 : ia ≠ ic) (h3 : is ≠ ic) (hb : Below wx.heap.size wx wy) :
    Tri (fun k => k == ic || D k) ia ic is B T p q va (ratV p q) g wy := by
  refine ⟨fun x => h.ptr ?_, fun _ => rfl, fun x => ?_, fun x y => (h.new ?_ ?_).kept hb, fun x => (h.full ?_).kept hb⟩ <;> simp only [ne_beq h1, ne_beq h3, Bool.false_or] at * <;> first | assumption | exact h.ord x
theorem Tri.store (h : Tri D ia ic is B T p q va vc g wx) (ha : D ia = true) (hs : D is = false) (_h1 : ia ≠ is) (h2 : ic ≠ is) :
    Tri (fun k => k == is || D k) ia ic is B T p q va vc g ((wx.setCell ⟨g, 0, none⟩ (.string p)).setCell ⟨g, 1, none⟩ (.string q)) := by
  refine ⟨fun x => h.ptr ha, fun x => h.val ?_, fun _ => ?_, fun _ y => ?_, fun _ => ((h.new ha hs).set0 _).set1 _⟩
  · simpa only [ne_beq h2, Bool.false_or] using x
  · simp [ha]
  · simp at y
end
/-- a box elsewhere -/
theorem BxT.two {w : World} {B g : Nat} {T : TypeId} {u v : Value} (h : BxT w B g T u v) {gx : Nat} (hp : g ≠ gx) (x y : Value) : BxT ((w.setCell ⟨gx, 0, none⟩ x).setCell ⟨gx, 1, none⟩ y) B g T u v :=
  (h.other (p := ⟨gx, 0, none⟩) hp x).other (p := ⟨gx, 1, none⟩) hp y
end Go.Proofs.YtdgbplppabalgaaGreatDoor
