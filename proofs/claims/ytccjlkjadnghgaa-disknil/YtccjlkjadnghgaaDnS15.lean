/- A region that draws, whose last operation hangs on all the others, on some by way of another one. -/
import Derived.Test.YtccjlkjadnghgaaDnS12
set_option linter.all false
namespace Go.Sep
open Go.RowKit
section
variable {P : Program} {Q : Exit → Act → World → Prop} {K : Act → World → Prop}
def ClL (l : List Oper) (listed : Array Bool) : Prop := ∀ (j : Nat) (oj : Oper), l[j]? = some oj → listed.getD j false = true → ∀ e ∈ oj.after, Region.binds .any e = true → listed.getD e.on false = true
theorem cl_init (l : List Oper) (n : Nat) : ClL l (Array.replicate n false) := fun j oj _ h => by
  rw [Array.getD_eq_getD_getElem?, Array.getElem?_replicate] at h
  split at h <;> cases h
theorem cl_set {l : List Oper} {listed : Array Bool} {i : Nat} (h : ClL l listed) (hi : i ∈ Region.ready .any l.toArray listed) : ClL l (listed.setIfInBounds i true) := fun j oj hj hl e he hb => by
  have step : listed.getD e.on false = true → (listed.setIfInBounds i true).getD e.on false = true := fun q => by
    by_cases hie : i = e.on
    · subst hie
      rw [Array.getD_eq_getD_getElem?, Array.getElem?_setIfInBounds]
      have : e.on < listed.size := by
        rcases Nat.lt_or_ge e.on listed.size with h1 | h1
        · exact h1
        · rw [Array.getD_eq_getD_getElem?, Array.getElem?_eq_none h1] at q; cases q
      simp [this]
    · rw [getD_set_ne false hie]; exact q
  by_cases hij : i = j
  · subst hij
    obtain ⟨_, o', ho, hall⟩ := mem_ready.1 hi
    have : o' = oj := by
      have h1 : l.toArray[i]? = some oj := by simpa using hj
      rw [h1] at ho; cases ho; rfl
    subst this
    exact step (hall e he hb)
  · rw [getD_set_ne false hij] at hl
    exact step (h j oj hj hl e he hb)
theorem wpAny_last2 {l : List Oper} {o : Oper} (hK : ∀ a w, K a w → wpOp P (l ++ [o]).toArray Q l.length (Q .normal) a w) (hd : o.dst = none) (hdep : ∀ listed, ClL l listed → (∀ e ∈ o.after, Region.binds .any e = true → listed.getD e.on false = true) → ∀ j, j < l.length → listed.getD j false = true) (hon : ∀ e ∈ o.after, Region.binds .any e = true → e.on < l.length)
    (hback : ∀ (j : Nat) (oj : Oper), l[j]? = some oj → ∀ e ∈ oj.after, Region.binds .any e = true → e.on < j) : ∀ (fuel : Nat) (listed : Array Bool) (a : Act) (w : World), listed.size = l.length → ClL l listed →
    wpAny P .any l.toArray (Qn Q K) fuel listed a w → wpAny P .any (l ++ [o]).toArray Q (fuel + 1) (listed.push false) a w := by
  have hlast : (l ++ [o]).toArray[l.length]? = some o := by simp
  have fin : ∀ (fuel : Nat) (listed : Array Bool) (a : Act) (w : World), listed.size = l.length → Region.ready .any l.toArray listed = [] → wpOp P (l ++ [o]).toArray Q l.length (Q .normal) a w → wpAny P .any (l ++ [o]).toArray Q (fuel + 1) (listed.push false) a w := fun fuel listed a w hs hr h => by
    have hall := all_listed hs hback hr
    have hmem : l.length ∈ Region.ready .any (l ++ [o]).toArray (listed.push false) := mem_ready.2 ⟨by rw [getD_push, if_pos hs.symm], o, hlast, fun e he hb => by
      have h1 := hon e he hb
      rw [getD_push, if_neg (by omega)]; exact hall _ h1⟩
    refine ⟨fun h0 => (by rw [h0] at hmem; cases hmem), fun i hi => ?_⟩
    obtain ⟨h0, oi, ho, _⟩ := mem_ready.1 hi
    have hi' : i = l.length := by
      have hlt := (Array.getElem?_eq_some_iff.1 ho).1
      simp at hlt
      rw [getD_push] at h0
      split at h0
      · omega
      · have := hall i (by omega)
        have hsz : i < listed.size := by omega
        simp [hsz] at this h0
        rw [this] at h0; cases h0
    subst hi'
    refine wpOp_mono (fun a' w' hq => wpAny_done (fun j hj => ?_) hq _) h
    simp at hj
    rw [← hs]
    by_cases hj' : j = listed.size
    · subst hj'; simp
    · have hall' := hall j (by omega)
      have hsz : j < listed.size := by omega
      rw [getD_set_ne true (Ne.symm hj'), getD_push, if_neg hj']
      simpa [hsz] using hall'
  intro fuel
  induction fuel with
  | zero => intro listed a w hs hcl h; exact fin 0 listed a w hs h.1 (hK _ _ h.2)
  | succ fuel ih =>
    intro listed a w hs hcl h
    by_cases hr : Region.ready .any l.toArray listed = []
    · exact fin (fuel + 1) listed a w hs hr (hK _ _ (h.1 hr))
    · have hun : ∃ j, j < l.length ∧ listed.getD j false = false := by
        obtain ⟨j, hj⟩ := List.exists_mem_of_ne_nil _ hr
        obtain ⟨h0, oj, ho, _⟩ := mem_ready.1 hj
        have hlt : j < l.length := by simpa using (Array.getElem?_eq_some_iff.1 ho).1
        have hsz : j < listed.size := by omega
        exact ⟨j, hlt, by simpa [hsz] using h0⟩
      have hin : ∀ i, i ∈ Region.ready .any (l ++ [o]).toArray (listed.push false) → i < l.length ∧ i ∈ Region.ready .any l.toArray listed := fun i hi => by
        obtain ⟨h0, oi, ho, hall⟩ := mem_ready.1 hi
        have hlt := (Array.getElem?_eq_some_iff.1 ho).1
        simp at hlt
        by_cases hil : i = l.length
        · subst hil
          obtain rfl : o = oi := Option.some.inj (hlast.symm.trans ho)
          obtain ⟨j, hj, hju⟩ := hun
          have := hdep listed hcl (fun e he hb => by
            have h1 := hon e he hb
            have := hall e he hb
            rwa [getD_push, if_neg (by omega)] at this) j hj
          rw [hju] at this; cases this
        · have hlt' : i < l.length := by omega
          rw [getD_push, if_neg (by omega)] at h0
          have ho' : l[i]? = some oi := by
            simp only [List.getElem?_toArray, List.getElem?_append_left hlt'] at ho; exact ho
          refine ⟨hlt', mem_ready.2 ⟨h0, oi, by simpa using ho', fun e he hb => ?_⟩⟩
          have h2 := hback i oi ho' e he hb
          have := hall e he hb
          rwa [getD_push, if_neg (by omega)] at this
      refine ⟨fun h0 => ?_, fun i hi => ?_⟩
      · exfalso
        obtain ⟨j, hj⟩ := List.exists_mem_of_ne_nil _ hr
        obtain ⟨h1, oj, ho, hall⟩ := mem_ready.1 hj
        have hlt : j < l.length := by simpa using (Array.getElem?_eq_some_iff.1 ho).1
        have ho' : l[j]? = some oj := by simpa using ho
        have : j ∈ Region.ready .any (l ++ [o]).toArray (listed.push false) := mem_ready.2 ⟨by rw [getD_push, if_neg (by omega)]; exact h1, oj, by simp [List.getElem?_append_left hlt, ho'], fun e he hb => by
          have h2 := hback j oj ho' e he hb
          rw [getD_push, if_neg (by omega)]; exact hall e he hb⟩
        rw [h0] at this; cases this
      · obtain ⟨hlt, hmem⟩ := hin i hi
        have hw := h.2 i hmem
        have hcl' := cl_set hcl hmem
        unfold wpOp at hw ⊢
        have he : (l ++ [o]).toArray[i]? = l.toArray[i]? := by simp [List.getElem?_append_left hlt]
        rw [he]
        cases hoi : l.toArray[i]? with
        | none =>
          rw [hoi] at hw
          simp only at hw ⊢
          rw [set_push (by omega)]
          exact ih _ a w (by simpa using hs) hcl' hw
        | some oi =>
          rw [hoi] at hw
          simp only [yielded_last hd] at hw ⊢
          split
          · rename_i hwa
            rw [if_pos hwa] at hw
            rcases hw with hw | ⟨hw1, hw2⟩
            · refine .inl ?_
              have h3 : oi.wp P a w (wpAny P .any l.toArray (Qn Q K) fuel (listed.setIfInBounds i true)) Q := upon_Qn hw
              refine Oper.wp_mono (fun a' w' h4 => ?_) h3
              rw [set_push (by omega)]
              exact ih _ a' w' (by simpa using hs) hcl' h4
            · exact .inr ⟨hw1, lets_Qn hw2⟩
          · rename_i hwa
            rw [if_neg hwa] at hw
            rw [set_push (by omega)]
            exact ih _ _ w (by simpa using hs) hcl' hw
/-- closed facts on a region whose last operation hangs on all the others, on some by way of another one -/
def lastB2 (l : List Oper) (o : Oper) : Bool :=
  (match o.dst with | none => true | _ => false) && ((List.range l.length).all fun j => (o.after.any fun e => Region.binds .any e && Nat.beq e.on j) || ((List.range l.length).any fun i => (o.after.any fun e => Region.binds .any e && Nat.beq e.on i) && (match l[i]? with | none => false | some oi => oi.after.any fun e => Region.binds .any e && Nat.beq e.on j))) && (o.after.all fun e => !Region.binds .any e || Nat.blt e.on l.length) &&
  ((List.range l.length).all fun j => match l[j]? with | none => false | some oj => oj.after.all fun e => !Region.binds .any e || Nat.blt e.on j)
/-- RULE: the last operation is left for later. -/
theorem region_lastH {id : Nat} {L : List Oper} {a : Act} {w : World} (n : Nat) (S : World → Prop) (l : List Oper) (o : Oper) (hm : P.follows .mixedOrders = true) (hL : L = l ++ [o]) (hB : lastB2 l o = true) (hn : l.toArray.size = n)
    (h : wpAnyH P .any l.toArray (Qn Q (wpOp P (l ++ [o]).toArray Q l.length (Q .normal))) S n (Array.replicate n false) a { w with drawn := w.drawn + 1 }) : (Code.region id L.toArray true).wp P Q a w := by
  subst hn
  subst hL
  simp only [lastB2, Bool.and_eq_true, List.all_eq_true, List.mem_range, Array.any_eq_true', Array.all_eq_true', Nat.beq_eq, Nat.blt_eq, Bool.or_eq_true, Bool.not_eq_true', List.any_eq_true] at hB
  obtain ⟨⟨⟨h1, h2⟩, h3⟩, h4⟩ := hB
  have hd : o.dst = none := by
    cases hdd : o.dst with
    | none => rfl
    | some d => rw [hdd] at h1; cases h1
  refine wp_region_any hm ?_
  have := wpAny_last2 (P := P) (Q := Q) (a := a) (fun _ _ h => h) hd (fun listed hcl hall j hj => by
      rcases h2 j hj with ⟨e, he, hb, hon⟩ | ⟨i, hi, ⟨e, he, hb, hon⟩, hq⟩
      · subst hon; exact hall e he hb
      · cases hli : l[i]? with
        | none => rw [hli] at hq; cases hq
        | some oi =>
          rw [hli] at hq
          simp only [Array.any_eq_true', Bool.and_eq_true, Nat.beq_eq] at hq
          obtain ⟨e2, he2, hb2, hon2⟩ := hq
          subst hon hon2
          exact hcl _ oi hli (hall e he hb) e2 he2 hb2) (fun e he hb => by
      rcases h3 e he with h | h
      · rw [hb] at h; cases h
      · exact h) (fun j oj hj e he hb => by
      have hlt := (List.getElem?_eq_some_iff.1 hj).1
      have := h4 j hlt
      rw [hj] at this
      simp only [Array.all_eq_true', Bool.or_eq_true, Bool.not_eq_true', Nat.blt_eq] at this
      rcases this e he with h | h
      · rw [hb] at h; cases h
      · exact h) _ _ _ (by simp) (cl_init l _) (wpAny_of_held _ _ _ _ h)
  have e1 : (l ++ [o]).toArray.size = l.toArray.size + 1 := by simp
  rw [e1, Array.replicate_succ]
  exact this
end
end Go.Sep
