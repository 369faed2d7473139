/-
  The same as Facts, where some operations that don't look at the world (an extract, a slice of a string) may come behind stores.
-/
import Derived.Test.YtkfncjaomgcdgaaFacts
set_option linter.all false
namespace Go.Facts
open Go.RowKit

section
variable {P : Program} {ops : Array Oper} {Q : Exit → Act → World → Prop}

/-- The tail in the order of the text. -/
theorem tail_any (hback : ∀ j o, ops[j]? = some o → ∀ e ∈ o.after, Region.binds .any e = true → e.on < j) :
    ∀ (n k : Nat), ops.size - k = n → k ≤ ops.size → (∀ j o, ops[j]? = some o → k ≤ j → ∀ i, k ≤ i → i < j → reachB (ancs ops) i j = true) → ∀ (listed : Array Bool) (a : Act) (w : World), listed.size = ops.size → Closed ops listed →
      (∀ i, i < ops.size → (listed.getD i false = true ↔ i < k)) → wpOps P ops Q (List.range' k (ops.size - k)) a w → wpAny P .any ops Q (cnt ops.size listed) listed a w := by
  intro n
  induction n with
  | zero =>
    intro k hn hk htail listed a w hs hc hk' h
    have hall : ∀ i, i < ops.size → listed.getD i true = true := fun i hi => by
      have := (hk' i hi).2 (by omega)
      simpa [hs, hi] using this
    have hr : Region.ready .any ops listed = [] := by
      rw [List.eq_nil_iff_forall_not_mem]
      intro i hi
      obtain ⟨h0, o, ho, _⟩ := mem_ready.1 hi
      rw [hall i (Array.getElem?_eq_some_iff.1 ho).1] at h0; cases h0
    have h0 : cnt ops.size listed = 0 := by
      unfold cnt
      rw [List.countP_eq_zero]
      intro i hi
      have : i < ops.size := by simpa using hi
      simp [hall i this]
    rw [h0]
    rw [hn] at h
    exact ⟨hr, by simpa [wpOps] using h⟩
  | succ n ih =>
    intro k hn hk htail listed a w hs hc hk' h
    have hlt : k < ops.size := by omega
    have hun : listed.getD k true = false := by
      have : listed.getD k false = false := by
        cases hl : listed.getD k false
        · rfl
        · have := (hk' k hlt).1 hl; omega
      simpa [hs, hlt] using this
    have hcnt := cnt_set hlt hun
    rw [← hcnt]
    have only : ∀ i ∈ Region.ready .any ops listed, i = k := fun i hi => by
      obtain ⟨h0, o, ho, hd⟩ := mem_ready.1 hi
      have hi' : i < ops.size := (Array.getElem?_eq_some_iff.1 ho).1
      have hik : k ≤ i := by
        rcases Nat.lt_or_ge i k with h | h
        · have := (hk' i hi').2 h
          simp [hs, hi'] at this h0
          rw [this] at h0; cases h0
        · exact h
      rcases Nat.lt_or_ge k i with h | h
      · have := reach_spec hc k i o ho hd (htail i o ho hik k (Nat.le_refl _) h)
        have := (hk' k hlt).1 this; omega
      · omega
    have hrk : k ∈ Region.ready .any ops listed := by
      rw [mem_ready]
      exact ⟨hun, ops[k], by simp [hlt], fun e he hb => (hk' e.on (by have := hback k ops[k] (by simp [hlt]) e he hb; omega)).2 (hback k ops[k] (by simp [hlt]) e he hb)⟩
    refine ⟨fun h0 => (by rw [h0] at hrk; cases hrk), fun i hi => ?_⟩
    obtain rfl := only i hi
    have hsz : ops.size - i = (ops.size - (i + 1)) + 1 := by omega
    rw [hsz, List.range'_succ, wpOps_cons] at h
    refine wpOp_mono (fun a' w' h' => ?_) h
    refine ih (i + 1) (by omega) (by omega) (fun j o ho hj i' hi' hij => htail j o ho (by omega) i' (by omega) hij) _ a' w' (by simpa using hs) ?_ (fun j hj => ?_) h'
    · intro j o ho hj e he hb
      by_cases hij : i = j
      · subst hij
        obtain ⟨_, o', ho', hd⟩ := mem_ready.1 hrk
        obtain rfl : o' = o := by rw [ho'] at ho; simpa using ho
        exact getD_set_true (hd e he hb)
      · rw [getD_set_ne false hij] at hj
        exact getD_set_true (hc j o ho hj e he hb)
    · by_cases hij : i = j
      · subst hij
        have : (listed.setIfInBounds i true).getD i false = true := by simp [hs, hlt]
        simp only [this, true_iff]; omega
      · rw [getD_set_ne false hij, hk' j hj]; omega

/-- THE CLOSED CHECK, with operations that may come late. -/
def lateB (ops : Array Oper) (m : Nat) (late : List Nat) : Bool :=
  decide (0 < m) && decide (m ≤ ops.size) && nodupB ((ops.toList.take m).map (·.dst)) && Region.noSelect ops &&
  ((List.range ops.size).all fun j => match ops[j]? with
    | none => false
    | some o => o.after.all (fun e => !Region.binds .any e || decide (e.on < j)) && (decide (j < m) || (List.range j).all fun i => late.contains i || reachB (ancs ops) i j)) &&
  (late.all fun i => decide (i < m) && match ops[i]? with
    | none => false
    | some oi => oi.guard.isNone && (List.range ops.size).all fun j => decide (j ≤ i) || (decide (j < m) && !late.contains j) || match ops[j]? with
      | some oj => oj.after.any (fun e => Region.binds .any e && e.on == i) || oi.apart ops oj
      | none => true)

def lateObl (P : Program) (ops : Array Oper) (Φ : List PP) (ds : List (Option Tmp)) (m : Nat) (a0 : Act) (w1 : World) : List Nat → Prop
  | [] => True
  | i :: rest => (match ops[i]? with
      | none => True
      | some o => allV m fun xs => ∀ w, Ext w1 w → imps Φ xs w o.after.toList (∃ v, gp Φ i v w ∧ ∀ w', (execOp (putAll ds xs a0).eval o).run P w' = .ok (.value v) w')) ∧ lateObl P ops Φ ds m a0 w1 rest

theorem lateObl_spec {Φ : List PP} {ds : List (Option Tmp)} {m : Nat} {a0 : Act} {w1 : World} : ∀ {l : List Nat}, lateObl P ops Φ ds m a0 w1 l → ∀ i ∈ l, ∀ o, ops[i]? = some o →
    ∀ xs : List Value, xs.length = m → ∀ w, Ext w1 w → (∀ e ∈ o.after, Region.binds .any e = true → gp Φ e.on (xs.getD e.on undef) w) → ∃ v, gp Φ i v w ∧ ∀ w', (execOp (putAll ds xs a0).eval o).run P w' = .ok (.value v) w'
  | [], _, i, hi, _, _, _, _, _, _, _ => by cases hi
  | j :: l, h, i, hi, o, ho, xs, hx, w, hw, hd => by
    rcases List.mem_cons.1 hi with rfl | hi
    · have h1 := h.1
      rw [ho] at h1
      exact imps_spec (allV_spec h1 xs hx w hw) fun e he hb => hd e (by simpa using he) hb
    · exact lateObl_spec h.2 i hi o ho xs hx w hw hd

theorem wp_region_late {id : Nat} {a0 : Act} {w : World} (hm : P.follows .mixedOrders = true) (m : Nat) (late : List Nat) (fr : List Bool) (Φ : List PP) (hB : lateB ops m late = true)
    (hQ : ∀ c a d v w, Q (.panic c) (a.put d v) w → Q (.panic c) a w)
    (hobl : oblFrom P ops fr Φ ((ops.toList.take m).map (·.dst)) m a0 w 0 (ops.toList.take m))
    (hlate : lateObl P ops Φ ((ops.toList.take m).map (·.dst)) m a0 w late)
    (hrest : allV m fun xs => ∀ w', Ext w w' → factsFrom Φ w' 0 xs (Apart fr xs → wpList P ops Q (ops.toList.drop m) (putAll ((ops.toList.take m).map (·.dst)) xs a0) w'))
    (hfr : ∀ i ∈ late, fr.getD i false = false) :
    (Code.region id ops true).wp P Q a0 w := by
  simp only [lateB, Bool.and_eq_true, decide_eq_true_eq, List.all_eq_true, List.mem_range] at hB
  obtain ⟨⟨⟨⟨⟨hm0, hmn⟩, hnd⟩, hsel⟩, hedge⟩, hlt⟩ := hB
  generalize hds : (ops.toList.take m).map (·.dst) = ds at *
  have hback : ∀ j o, ops[j]? = some o → ∀ e ∈ o.after, Region.binds .any e = true → e.on < j := fun j o ho e he hb => by
    have := hedge j (Array.getElem?_eq_some_iff.1 ho).1
    simp only [ho, Bool.and_eq_true, Array.all_eq_true_iff_forall_mem] at this
    have h1 := this.1 e he
    simpa [hb] using h1
  have htail : ∀ j o, ops[j]? = some o → m ≤ j → ∀ i, i < j → i ∉ late → reachB (ancs ops) i j = true := fun j o ho hj i hi hl => by
    have := hedge j (Array.getElem?_eq_some_iff.1 ho).1
    simp only [ho, Bool.and_eq_true, Bool.or_eq_true, decide_eq_true_eq, List.all_eq_true, List.mem_range, List.contains_iff_mem] at this
    exact (this.2.resolve_left (by omega) i hi).resolve_left hl
  have latem : ∀ i ∈ late, i < m := fun i hi => by
    exact (hlt i hi).1
  have lateguard : ∀ i ∈ late, ∀ o, ops[i]? = some o → o.guard = none := fun i hi o ho => by
    have := hlt i hi
    simp only [Bool.and_eq_true, ho, Option.isNone_iff_eq_none] at this
    exact this.2.1
  have latefree : ∀ i ∈ late, ∀ oi, ops[i]? = some oi → ∀ j oj, ops[j]? = some oj → i < j → (m ≤ j ∨ j ∈ late) → (∀ e ∈ oj.after, Region.binds .any e = true → e.on ≠ i) → oi.apart ops oj = true := fun i hi oi ho j oj hj hne hjl hno => by
    have := hlt i hi
    simp only [Bool.and_eq_true, ho, List.all_eq_true, List.mem_range] at this
    have h1 := this.2.2 j (Array.getElem?_eq_some_iff.1 hj).1
    simp only [hj, Bool.or_eq_true, beq_iff_eq, Bool.and_eq_true, decide_eq_true_eq, Bool.not_eq_true', Array.any_eq_true'] at h1
    rcases h1 with (h1 | ⟨h2, h3⟩) | ⟨e, he, hb⟩ | h2
    · omega
    · rcases hjl with h | h
      · omega
      · have : late.contains j = true := by simpa using h
        rw [this] at h3; cases h3
    · exact absurd hb.2 (hno e he hb.1)
    · exact h2
  have hobl' : ∀ i o, i < m → ops[i]? = some o → Obl P ops Q fr Φ ds m a0 w i o := fun i o hi ho => by
    have h1 : (ops.toList.take m)[i]? = some o := by rw [List.getElem?_take]; simp [hi, ho]
    have h2 := oblFrom_spec (Q := Q) hobl (fun j o hj => by
      rw [List.getElem?_take] at hj
      split at hj
      · simpa using hj
      · simp at hj) i o h1
    simpa using h2
  have hdst : ∀ i o, i < m → ops[i]? = some o → ds[i]? = some o.dst := fun i o hi ho => by
    rw [← hds, List.getElem?_map, List.getElem?_take]; simp [hi, ho]
  have unl : ∀ (listed : Array Bool) (i : Nat), listed.size = ops.size → i < ops.size → listed.getD i false = listed.getD i true := fun listed i hs hi => by
    simp [hs, hi]
  have closed_set : ∀ listed i, Closed ops listed → i ∈ Region.ready .any ops listed → Closed ops (listed.setIfInBounds i true) := fun listed i hc hi j o ho hj e he hb => by
    obtain ⟨_, o', ho', hd⟩ := mem_ready.1 hi
    by_cases hij : i = j
    · subst hij
      obtain rfl : o' = o := by rw [ho'] at ho; simpa using ho
      exact getD_set_true (hd e he hb)
    · rw [getD_set_ne false hij] at hj
      exact getD_set_true (hc j o ho hj e he hb)
  have first : ∀ (listed : Array Bool) (n : Nat), (∃ i, i < n ∧ listed.getD i false = false) → ∃ i, i < n ∧ listed.getD i false = false ∧ ∀ j, j < i → listed.getD j false = true := by
    intro listed n
    induction n with
    | zero => rintro ⟨i, h, _⟩; omega
    | succ n ih =>
      rintro ⟨i, hi, h0⟩
      by_cases hex : ∃ i, i < n ∧ listed.getD i false = false
      · obtain ⟨i, hi, h⟩ := ih hex; exact ⟨i, by omega, h⟩
      · have hin : i = n := by
          rcases Nat.lt_or_ge i n with h | h
          · exact absurd ⟨i, h, h0⟩ hex
          · omega
        subst hin
        refine ⟨i, hi, h0, fun j hj => ?_⟩
        cases hl : listed.getD j false
        · exact absurd ⟨j, hj, hl⟩ hex
        · rfl
  have setfacts : ∀ (listed : Array Bool) (xs : List Value) (i : Nat) (v : Value) (w' w'' : World), xs.length = m → i < m → Ext w' w'' → gp Φ i v w'' → (∀ j, j < m → listed.getD j false = true → gp Φ j (xs.getD j undef) w') →
      ∀ j, j < m → (listed.setIfInBounds i true).getD j false = true → gp Φ j ((xs.set i v).getD j undef) w'' := fun listed xs i v w' w'' hx him hE hv hf j hj hl => by
    by_cases hij : i = j
    · subst hij
      have : (xs.set i v).getD i undef = v := by simp [hx, hj]
      rw [this]; exact hv
    · rw [getD_set_ne false hij] at hl
      have : (xs.set i v).getD j undef = xs.getD j undef := by simp [List.getElem?_set_ne hij]
      rw [this]; exact gp_mono hE (hf j hj hl)
  -- behind the free ones: the late ones first, then the tail
  have finish : ∀ (n : Nat) (listed : Array Bool) (xs : List Value) (w' : World), cnt ops.size listed = n → Closed ops listed → listed.size = ops.size → xs.length = m → Ext w w' →
      (∀ i, i < m → listed.getD i false = true → gp Φ i (xs.getD i undef) w') → NewInv fr listed m xs w' → (∀ j, m ≤ j → listed.getD j false = false) → (∀ i, i < m → i ∉ late → listed.getD i false = true) →
      wpAny P .any ops Q n listed (putAll ds xs a0) w' := by
    intro n
    induction n with
    | zero =>
      intro listed xs w' hn hc hs hx hE hf hnew hlate' hall
      have hfull : ∀ i, i < ops.size → listed.getD i false = true := fun i hi => by
        rw [unl listed i hs hi]
        cases h0 : listed.getD i true
        · have := cnt_set hi h0; omega
        · rfl
      have h1 := factsFrom_spec (allV_spec hrest xs hx w' hE) (fun j hj => by
          have hj' : j < m := by omega
          simpa using hf j hj' (hfull j (by omega))) (fun i' j' hij hfi hfj a b ha hb => by
          have bound : ∀ q c, xs.getD q undef = .pointer (some c) → q < m := fun q c hq => by
            rcases Nat.lt_or_ge q m with h | h
            · exact h
            · have e0 : xs.getD q undef = undef := by
                rw [List.getD_eq_getElem?_getD, List.getElem?_eq_none (by omega)]; rfl
              rw [e0] at hq; cases hq
          exact hnew.2 i' j' (bound _ _ ha) (bound _ _ hb) hij (hfull _ (by have := bound _ _ ha; omega)) (hfull _ (by have := bound _ _ hb; omega)) hfi hfj a b ha hb)
      have h2 := wpOps_eq_wpList (P := P) (ops := ops) (Q := Q) (ops.toList.drop m) m (fun j => by simp)
      have h3 : (ops.toList.drop m).length = ops.size - m := by simp
      rw [h3] at h2
      rw [← h2] at h1
      have hms : m = ops.size := by
        rcases Nat.lt_or_ge m ops.size with h | h
        · have := hlate' m (Nat.le_refl _); rw [hfull m h] at this; cases this
        · omega
      have := tail_any hback 0 m (by omega) hmn (fun j o ho hj => by have := (Array.getElem?_eq_some_iff.1 ho).1; omega) listed _ w' hs hc (fun i hi => ⟨fun _ => by omega, fun _ => hfull i hi⟩) h1
      rw [hn] at this; exact this
    | succ n ih =>
      intro listed xs w' hn hc hs hx hE hf hnew hlate' hall
      by_cases hex : ∃ i, i < m ∧ listed.getD i false = false
      · obtain ⟨i, him, h0, hbelow⟩ := first listed m hex
        have hil : i ∈ late := by
          rcases Classical.em (i ∈ late) with h | h
          · exact h
          · have := hall i him h; rw [h0] at this; cases this
        have hilt : i < ops.size := by omega
        have ho : ops[i]? = some ops[i] := by simp [hilt]
        have hready : i ∈ Region.ready .any ops listed := by
          rw [mem_ready]
          exact ⟨by rw [← unl listed i hs hilt]; exact h0, ops[i], ho, fun e he hb => hbelow _ (hback i ops[i] ho e he hb)⟩
        obtain ⟨v, hv, hrun⟩ := lateObl_spec hlate i hil ops[i] ho xs hx w' hE (fun e he hb => by
          have := hback i ops[i] ho e he hb
          exact hf e.on (by omega) (hbelow _ this))
        have hcnt := cnt_set hilt (by rw [← unl listed i hs hilt]; exact h0)
        have hnext := ih (listed.setIfInBounds i true) (xs.set i v) w' (by omega) (closed_set _ _ hc hready) (by simpa using hs) (by simpa using hx) hE
          (setfacts listed xs i v w' w' hx him (Ext.refl _) hv hf)
          (hnew.step hx him (Ext.refl _) (by unfold newB; rw [hfr i hil]; simp))
          (fun j hj => by rw [getD_set_ne false (by omega)]; exact hlate' j hj)
          (fun j hj hjl => by
            by_cases hij : i = j
            · subst hij; exact absurd hil hjl
            · rw [getD_set_ne false hij]; exact hall j hj hjl)
        rw [← putAll_set hnd (hdst i ops[i] him ho) (by omega)] at hnext
        refine wpAny_first ho (Region.noSelect_spec hsel) (fun c a w h => hQ c a _ _ w h) n listed _ w' ?_ hready (.inl ⟨by simp [Region.wanted, lateguard i hil ops[i] ho], hrun⟩) hnext
        intro j oj hj hji hun hno
        refine latefree i hil ops[i] ho j oj hj ?_ ?_ hno
        · rcases Nat.lt_or_ge i j with h | h
          · exact h
          · have h1 := hbelow j (by omega)
            rw [unl listed j hs (by omega), hun] at h1; cases h1
        rcases Nat.lt_or_ge j m with h | h
        · refine .inr ?_
          rcases Classical.em (j ∈ late) with h' | h'
          · exact h'
          · have h1 := hall j h h'
            rw [unl listed j hs (by omega), hun] at h1; cases h1
        · exact .inl h
      · have hfull : ∀ i, i < m → listed.getD i false = true := fun i hi => by
          cases hl : listed.getD i false
          · exact absurd ⟨i, hi, hl⟩ hex
          · rfl
        have h1 := factsFrom_spec (allV_spec hrest xs hx w' hE) (fun j hj => by
            have hj' : j < m := by omega
            simpa using hf j hj' (hfull j hj')) (fun i' j' hij hfi hfj a b ha hb => by
            have bound : ∀ q c, xs.getD q undef = .pointer (some c) → q < m := fun q c hq => by
              rcases Nat.lt_or_ge q m with h | h
              · exact h
              · have e0 : xs.getD q undef = undef := by
                  rw [List.getD_eq_getElem?_getD, List.getElem?_eq_none (by omega)]; rfl
                rw [e0] at hq; cases hq
            exact hnew.2 i' j' (bound _ _ ha) (bound _ _ hb) hij (hfull _ (bound _ _ ha)) (hfull _ (bound _ _ hb)) hfi hfj a b ha hb)
        have h2 := wpOps_eq_wpList (P := P) (ops := ops) (Q := Q) (ops.toList.drop m) m (fun j => by simp)
        have h3 : (ops.toList.drop m).length = ops.size - m := by simp
        rw [h3] at h2
        rw [← h2] at h1
        have := tail_any hback _ m rfl hmn (fun j o ho hj i hi hij => htail j o ho (by omega) i hij (fun hl => by have := latem i hl; omega)) listed _ w' hs hc (fun i hi => ⟨fun hl => (by
            rcases Nat.lt_or_ge i m with h | h
            · exact h
            · rw [hlate' i h] at hl; cases hl), fun hl => hfull i hl⟩) h1
        rw [hn] at this; exact this
  let I : Array Bool → Act → World → Prop := fun listed a w' =>
    (Closed ops listed ∧ listed.size = ops.size ∧
      ∃ xs : List Value, xs.length = m ∧ a = putAll ds xs a0 ∧ Ext w w' ∧ (∀ i, i < m → listed.getD i false = true → gp Φ i (xs.getD i undef) w') ∧ NewInv fr listed m xs w' ∧
        (∀ j, m ≤ j → listed.getD j false = false) ∧ (∃ i, i < m ∧ i ∉ late ∧ listed.getD i false = false)) ∨
    wpAny P .any ops Q (cnt ops.size listed) listed a w'
  have hend : ∀ listed a w', I listed a w' → Region.ready .any ops listed = [] → Q .normal a w' := by
    rintro listed a w' (⟨_, hs, xs, _, _, _, _, _, _, i, hi, _, h0⟩ | h) hr
    · obtain ⟨i, hi, h0, hall⟩ := first listed m ⟨i, hi, h0⟩
      have hio : i < ops.size := by omega
      have : i ∈ Region.ready .any ops listed := by
        rw [mem_ready]
        exact ⟨by rw [← unl listed i hs (by omega)]; exact h0, ops[i], by simp [hio], fun e he hb => hall _ (hback i ops[i] (by simp [hio]) e he hb)⟩
      rw [hr] at this; cases this
    · cases hn : cnt ops.size listed with
      | zero => rw [hn] at h; exact h.2
      | succ n => rw [hn] at h; exact h.1 hr
  have hstep : ∀ listed a w' i, I listed a w' → i ∈ Region.ready .any ops listed → wpOp P ops Q i (I (listed.setIfInBounds i true)) a w' := by
    rintro listed a w' i hI hi
    obtain ⟨hun, o, ho, hd⟩ := mem_ready.1 hi
    have hlt' : i < ops.size := (Array.getElem?_eq_some_iff.1 ho).1
    have hcnt := cnt_set hlt' hun
    rcases hI with ⟨hc, hs, xs, hx, rfl, hE, hf, hnew, hlate', hex⟩ | h
    · have him : i < m := by
        rcases Nat.lt_or_ge i m with h | h
        · exact h
        · obtain ⟨i', hi', hnl, h0⟩ := hex
          have := reach_spec hc i' i o ho hd (htail i o ho h i' (by omega) hnl)
          rw [h0] at this; cases this
      have hedges : ∀ e ∈ o.after, Region.binds .any e = true → gp Φ e.on (xs.getD e.on undef) w' := fun e he hb => by
        have := hback i o ho e he hb
        exact hf e.on (by omega) (hd e he hb)
      refine wpOp_mono ?_ (hobl' i o him ho xs hx w' hE hedges)
      rintro a' w'' ⟨v, rfl, hE', hv, hn⟩
      have hnew' := hnew.step hx him hE' hn
      rw [putAll_set hnd (hdst i o him ho) (by omega)]
      have hf' := setfacts listed xs i v w' w'' hx him hE' hv hf
      have hlate2 : ∀ j, m ≤ j → (listed.setIfInBounds i true).getD j false = false := fun j hj => by rw [getD_set_ne false (by omega)]; exact hlate' j hj
      by_cases hex' : ∃ j, j < m ∧ j ∉ late ∧ (listed.setIfInBounds i true).getD j false = false
      · exact .inl ⟨closed_set _ _ hc hi, by simpa using hs, xs.set i v, by simpa using hx, rfl, hE.trans hE', hf', hnew', hlate2, hex'⟩
      · refine .inr (finish _ _ _ _ rfl (closed_set _ _ hc hi) (by simpa using hs) (by simpa using hx) (hE.trans hE') hf' hnew' hlate2 (fun j hj hjl => ?_))
        cases hl : (listed.setIfInBounds i true).getD j false
        · exact absurd ⟨j, hj, hjl, hl⟩ hex'
        · rfl
    · rw [← hcnt] at h
      exact wpOp_mono (fun a' w'' h' => .inr h') (h.2 i hi)
  have hrep : ∀ i, (Array.replicate ops.size false).getD i false = false := fun i => by
    by_cases h : i < ops.size <;> simp [h]
  have hclosed0 : Closed ops (Array.replicate ops.size false) := fun j o _ hj => by rw [hrep] at hj; cases hj
  have hx0 : (ds.map fun d => a0.tmps.getD (d.getD 0) undef).length = m := by rw [← hds]; simp; omega
  have hnew0 : NewInv fr (Array.replicate ops.size false) m (ds.map fun d => a0.tmps.getD (d.getD 0) undef) { w with drawn := w.drawn + 1 } :=
    ⟨fun i _ hl => (by rw [hrep] at hl; cases hl), fun i j _ _ _ hl => (by rw [hrep] at hl; cases hl)⟩
  refine wp_region_any hm (wpAny_inv I hend hstep _ _ _ _ ?_ ?_)
  · unfold cnt; simpa using List.countP_le_length (p := fun i => !(Array.replicate ops.size false).getD i true) (l := List.range ops.size)
  · by_cases hex : ∃ j, j < m ∧ j ∉ late
    · obtain ⟨j, hj, hjl⟩ := hex
      exact .inl ⟨hclosed0, by simp, _, hx0, (putAll_self ds a0).symm, (Ext.refl w).drew, fun i _ hl => (by rw [hrep] at hl; cases hl), hnew0, fun j _ => hrep j, j, hj, hjl, hrep j⟩
    · refine .inr ?_
      have := finish _ (Array.replicate ops.size false) _ { w with drawn := w.drawn + 1 } rfl hclosed0 (by simp) hx0 (Ext.refl w).drew (fun i _ hl => by rw [hrep] at hl; cases hl) hnew0 (fun j _ => hrep j) (fun i hi hil => absurd ⟨i, hi, hil⟩ hex)
      rw [putAll_self] at this; exact this

theorem wp_late {id : Nat} {l : List Oper} {a0 : Act} {w : World} (m : Nat) (late : List Nat) (fr : List Bool) (Φ : List PP) (hm : P.follows .mixedOrders = true) (hB : lateB l.toArray m late = true)
    (hQ : ∀ c a d v w, Q (.panic c) (a.put d v) w → Q (.panic c) a w)
    (hobl : oblFrom P l.toArray fr Φ ((l.take m).map (·.dst)) m a0 w 0 (l.take m))
    (hlate : lateObl P l.toArray Φ ((l.take m).map (·.dst)) m a0 w late)
    (hfr : ∀ i ∈ late, fr.getD i false = false)
    (hrest : allV m fun xs => ∀ w', Ext w w' → factsFrom Φ w' 0 xs (Apart fr xs → wpList P l.toArray Q (l.drop m) (putAll ((l.take m).map (·.dst)) xs a0) w')) :
    (Code.region id l.toArray true).wp P Q a0 w :=
  wp_region_late (ops := l.toArray) hm m late fr Φ hB hQ (by simpa using hobl) (by simpa using hlate) (by simpa using hrest) hfr
end
end Go.Facts
