/-
  Regions that draw, whose last operation hangs on all the others; what is lent is one's own again.
-/
import Derived.Test.YtgdickihjaomjaaDoorElS10
set_option linter.all false
namespace Go.Sep
open Go.RowKit
/-- Another end for what goes well. -/
def Qn (Q : Exit → Act → World → Prop) (K : Act → World → Prop) : Exit → Act → World → Prop
  | .normal, a, w => K a w
  | .exit id, a, w => Q (.exit id) a w
  | e, a, w => Q e a w
section
variable {P : Program} {Q : Exit → Act → World → Prop} {K : Act → World → Prop}
theorem lets_Qn (h : LetsOut (Qn Q K)) : LetsOut Q := by
  obtain ⟨a, w, h⟩ := h
  exact ⟨a, w, h⟩
theorem upon_Qn {o : Oper} {a : Act} {next : Act → World → Prop} {r : Result Next} (h : o.upon P a next (Qn Q K) r) : o.upon P a next Q r := by
  cases r with
  | ok n w' =>
    cases n <;> simp only [Oper.upon] at h ⊢ <;> first
      | exact h
      | (refine Calls.mono h fun e w'' he => ?_
         cases e with
         | returned v => exact he
         | panicked c => exact he
         | outgrown => exact lets_Qn he)
  | halt x w' => cases x <;> simp only [Oper.upon] at h ⊢ <;> exact h
theorem yielded_last {l : List Oper} {o : Oper} (hd : o.dst = none) (t : Array Value) : yielded (l ++ [o]).toArray t = yielded l.toArray t := by
  funext j
  unfold yielded
  have : ((l ++ [o]).toArray[j]?).bind (·.dst) = (l.toArray[j]?).bind (·.dst) := by
    simp only [List.getElem?_toArray]
    rcases Nat.lt_trichotomy j l.length with h | h | h
    · rw [List.getElem?_append_left h]
    · subst h; simp [hd]
    · rw [List.getElem?_eq_none (by simp; omega), List.getElem?_eq_none (by omega)]
  rw [this]
theorem ready_all {ops : Array Oper} {listed : Array Bool} (h : ∀ j, j < ops.size → listed.getD j true = true) : Region.ready .any ops listed = [] := by
  rw [List.eq_nil_iff_forall_not_mem]
  intro j hj
  obtain ⟨h0, o, ho, _⟩ := mem_ready.1 hj
  rw [h j (Array.getElem?_eq_some_iff.1 ho).1] at h0
  cases h0
theorem wpAny_done {ops : Array Oper} {listed : Array Bool} (h : ∀ j, j < ops.size → listed.getD j true = true) {a : Act} {w : World} (hq : Q .normal a w) : ∀ fuel, wpAny P .any ops Q fuel listed a w
  | 0 => ⟨ready_all h, hq⟩
  | fuel + 1 => ⟨fun _ => hq, fun i hi => by rw [ready_all h] at hi; cases hi⟩
theorem getD_push {listed : Array Bool} {b d : Bool} {j : Nat} : (listed.push b).getD j d = if j = listed.size then b else listed.getD j d := by
  rw [Array.getD_eq_getD_getElem?, Array.getD_eq_getD_getElem?, Array.getElem?_push]
  split
  · rfl
  · rfl
theorem set_push {listed : Array Bool} {b : Bool} {j : Nat} (h : j < listed.size) : (listed.push b).setIfInBounds j true = (listed.setIfInBounds j true).push b := by
  apply Array.ext_getElem?
  intro i
  rw [Array.getElem?_setIfInBounds, Array.getElem?_push, Array.getElem?_push, Array.getElem?_setIfInBounds]
  by_cases hj : j = i
  · subst hj
    have hne : ¬ j = listed.size := by omega
    have hlt : j < listed.size + 1 := by omega
    simp [h, hne, hlt]
  · simp [hj]
theorem all_listed {l : List Oper} {listed : Array Bool} (hs : listed.size = l.length) (hback : ∀ (j : Nat) (oj : Oper), l[j]? = some oj → ∀ e ∈ oj.after, Region.binds .any e = true → e.on < j) (hr : Region.ready .any l.toArray listed = []) : ∀ j, j < l.length → listed.getD j false = true := by
  intro j
  induction j using Nat.strongRecOn with
  | ind j ih =>
    intro hj
    cases hb : listed.getD j false with
    | true => rfl
    | false =>
      have hb' : listed.getD j true = false := by
        have : j < listed.size := by omega
        simpa [this] using hb
      have : j ∈ Region.ready .any l.toArray listed := mem_ready.2 ⟨hb', l[j], by simp [hj], fun e he hbd => ih _ (hback j l[j] (by simp [hj]) e he hbd) (by have := hback j l[j] (by simp [hj]) e he hbd; omega)⟩
      rw [hr] at this; cases this
theorem wpAny_last {l : List Oper} {o : Oper} (hK : ∀ a w, K a w → wpOp P (l ++ [o]).toArray Q l.length (Q .normal) a w) (hd : o.dst = none) (hdep : ∀ j, j < l.length → ∃ e ∈ o.after, Region.binds .any e = true ∧ e.on = j) (hon : ∀ e ∈ o.after, Region.binds .any e = true → e.on < l.length)
    (hback : ∀ (j : Nat) (oj : Oper), l[j]? = some oj → ∀ e ∈ oj.after, Region.binds .any e = true → e.on < j) : ∀ (fuel : Nat) (listed : Array Bool) (a : Act) (w : World), listed.size = l.length →
    wpAny P .any l.toArray (Qn Q K) fuel listed a w → wpAny P .any (l ++ [o]).toArray Q (fuel + 1) (listed.push false) a w := by
  have hlast : (l ++ [o]).toArray[l.length]? = some o := by simp
  have fin : ∀ (fuel : Nat) (listed : Array Bool) (a : Act) (w : World), listed.size = l.length → Region.ready .any l.toArray listed = [] → wpOp P (l ++ [o]).toArray Q l.length (Q .normal) a w → wpAny P .any (l ++ [o]).toArray Q (fuel + 1) (listed.push false) a w := fun fuel listed a w hs hr h => by
    have hall := all_listed hs hback hr
    have hmem : l.length ∈ Region.ready .any (l ++ [o]).toArray (listed.push false) := mem_ready.2 ⟨by rw [getD_push, if_pos hs.symm], o, hlast, fun e he hb => by
      have h1 := hon e he hb
      rw [getD_push, if_neg (by omega)]; exact hall _ h1⟩
    refine ⟨fun h0 => (by rw [h0] at hmem; cases hmem), fun i hi => ?_⟩
    obtain ⟨h0, oi, ho, _⟩ := mem_ready.1 hi
    have hi' : i = l.length := by
      have hlt := (Array.getElem?_eq_some_iff.1 ho).1
      simp at hlt
      rw [getD_push] at h0
      split at h0
      · omega
      · have := hall i (by omega)
        have hsz : i < listed.size := by omega
        simp [hsz] at this h0
        rw [this] at h0; cases h0
    subst hi'
    refine wpOp_mono (fun a' w' hq => wpAny_done (fun j hj => ?_) hq _) h
    simp at hj
    rw [← hs]
    by_cases hj' : j = listed.size
    · subst hj'; simp
    · have hall' := hall j (by omega)
      have hsz : j < listed.size := by omega
      rw [getD_set_ne true (Ne.symm hj'), getD_push, if_neg hj']
      simpa [hsz] using hall'
  intro fuel
  induction fuel with
  | zero => intro listed a w hs h; exact fin 0 listed a w hs h.1 (hK _ _ h.2)
  | succ fuel ih =>
    intro listed a w hs h
    by_cases hr : Region.ready .any l.toArray listed = []
    · exact fin (fuel + 1) listed a w hs hr (hK _ _ (h.1 hr))
    · have hun : ∃ j, j < l.length ∧ listed.getD j false = false := by
        obtain ⟨j, hj⟩ := List.exists_mem_of_ne_nil _ hr
        obtain ⟨h0, oj, ho, _⟩ := mem_ready.1 hj
        have hlt : j < l.length := by simpa using (Array.getElem?_eq_some_iff.1 ho).1
        have hsz : j < listed.size := by omega
        exact ⟨j, hlt, by simpa [hsz] using h0⟩
      have hin : ∀ i, i ∈ Region.ready .any (l ++ [o]).toArray (listed.push false) → i < l.length ∧ i ∈ Region.ready .any l.toArray listed := fun i hi => by
        obtain ⟨h0, oi, ho, hall⟩ := mem_ready.1 hi
        have hlt := (Array.getElem?_eq_some_iff.1 ho).1
        simp at hlt
        by_cases hil : i = l.length
        · subst hil
          obtain rfl : o = oi := Option.some.inj (hlast.symm.trans ho)
          obtain ⟨j, hj, hju⟩ := hun
          obtain ⟨e, he, hb, rfl⟩ := hdep j hj
          have := hall e he hb
          rw [getD_push, if_neg (by omega), hju] at this; cases this
        · have hlt' : i < l.length := by omega
          rw [getD_push, if_neg (by omega)] at h0
          have ho' : l[i]? = some oi := by
            simp only [List.getElem?_toArray, List.getElem?_append_left hlt'] at ho; exact ho
          refine ⟨hlt', mem_ready.2 ⟨h0, oi, by simpa using ho', fun e he hb => ?_⟩⟩
          have h2 := hback i oi ho' e he hb
          have := hall e he hb
          rwa [getD_push, if_neg (by omega)] at this
      refine ⟨fun h0 => ?_, fun i hi => ?_⟩
      · exfalso
        obtain ⟨j, hj⟩ := List.exists_mem_of_ne_nil _ hr
        obtain ⟨h1, oj, ho, hall⟩ := mem_ready.1 hj
        have hlt : j < l.length := by simpa using (Array.getElem?_eq_some_iff.1 ho).1
        have ho' : l[j]? = some oj := by simpa using ho
        have : j ∈ Region.ready .any (l ++ [o]).toArray (listed.push false) := mem_ready.2 ⟨by rw [getD_push, if_neg (by omega)]; exact h1, oj, by simp [List.getElem?_append_left hlt, ho'], fun e he hb => by
          have h2 := hback j oj ho' e he hb
          rw [getD_push, if_neg (by omega)]; exact hall e he hb⟩
        rw [h0] at this; cases this
      · obtain ⟨hlt, hmem⟩ := hin i hi
        have hw := h.2 i hmem
        unfold wpOp at hw ⊢
        have he : (l ++ [o]).toArray[i]? = l.toArray[i]? := by simp [List.getElem?_append_left hlt]
        rw [he]
        cases hoi : l.toArray[i]? with
        | none =>
          rw [hoi] at hw
          simp only at hw ⊢
          rw [set_push (by omega)]
          exact ih _ a w (by simpa using hs) hw
        | some oi =>
          rw [hoi] at hw
          simp only [yielded_last hd] at hw ⊢
          split
          · rename_i hwa
            rw [if_pos hwa] at hw
            rcases hw with hw | ⟨hw1, hw2⟩
            · refine .inl ?_
              have h3 : oi.wp P a w (wpAny P .any l.toArray (Qn Q K) fuel (listed.setIfInBounds i true)) Q := upon_Qn hw
              refine Oper.wp_mono (fun a' w' h4 => ?_) h3
              rw [set_push (by omega)]
              exact ih _ a' w' (by simpa using hs) h4
            · exact .inr ⟨hw1, lets_Qn hw2⟩
          · rename_i hwa
            rw [if_neg hwa] at hw
            rw [set_push (by omega)]
            exact ih _ _ w (by simpa using hs) hw
theorem last_split {L : List Oper} (n : Nat) (h : L.drop n = [L.getD n default]) : L = L.take n ++ [L.getD n default] := by rw [← h, List.take_append_drop]
/-- closed facts on a region whose last operation hangs on all the others -/
def lastB (l : List Oper) (o : Oper) : Bool :=
  (match o.dst with | none => true | _ => false) && ((List.range l.length).all fun j => o.after.any fun e => Region.binds .any e && Nat.beq e.on j) && (o.after.all fun e => !Region.binds .any e || Nat.blt e.on l.length) &&
  ((List.range l.length).all fun j => match l[j]? with | none => false | some oj => oj.after.all fun e => !Region.binds .any e || Nat.blt e.on j)
/-- RULE: the last operation is left for later. -/
theorem region_last {id : Nat} {L : List Oper} {a : Act} {w : World} (n : Nat) (l : List Oper) (o : Oper) (hm : P.follows .mixedOrders = true) (hL : L = l ++ [o]) (hB : lastB l o = true)
    (h : wpAny P .any l.toArray (Qn Q (wpOp P (l ++ [o]).toArray Q l.length (Q .normal))) l.toArray.size (Array.replicate l.toArray.size false) a { w with drawn := w.drawn + 1 }) : (Code.region id L.toArray true).wp P Q a w := by
  subst hL
  simp only [lastB, Bool.and_eq_true, List.all_eq_true, List.mem_range, Array.any_eq_true', Array.all_eq_true', Nat.beq_eq, Nat.blt_eq, Bool.or_eq_true, Bool.not_eq_true'] at hB
  obtain ⟨⟨⟨h1, h2⟩, h3⟩, h4⟩ := hB
  have hd : o.dst = none := by
    cases hdd : o.dst with
    | none => rfl
    | some d => rw [hdd] at h1; cases h1
  refine wp_region_any hm ?_
  have := wpAny_last (P := P) (Q := Q) (a := a) (fun _ _ h => h) hd (fun j hj => by
      obtain ⟨e, he, hb, hon⟩ := h2 j hj
      exact ⟨e, he, hb, hon⟩) (fun e he hb => by
      rcases h3 e he with h | h
      · rw [hb] at h; cases h
      · exact h) (fun j oj hj e he hb => by
      have hlt := (List.getElem?_eq_some_iff.1 hj).1
      have := h4 j hlt
      rw [hj] at this
      simp only [Array.all_eq_true', Bool.or_eq_true, Bool.not_eq_true', Nat.blt_eq] at this
      rcases this e he with h | h
      · rw [hb] at h; cases h
      · exact h) _ _ _ (by simp) h
  have e1 : (l ++ [o]).toArray.size = l.toArray.size + 1 := by simp
  rw [e1, Array.replicate_succ]
  exact this
/-- .. and comes now: it answers nothing. -/
theorem last_rule {l : List Oper} {o : Oper} {N : Nat} {ev : Ev} {w w' : World} (s0 : Sem Unit) (hd : o.dst = none) (hw : Region.wanted o (yieldE N (l ++ [o]).toArray ev) = true) (hs : execOp (evalE N ev) o = s0.bind fun _ => .pure .skip) (hr : s0.run P w = .ok () w') (k : Q .normal (ActOf N ev) w') :
    wpOp P (l ++ [o]).toArray Q l.length (Q .normal) (ActOf N ev) w := by
  have hlast : (l ++ [o]).toArray[l.length]? = some o := by simp
  unfold wpOp
  rw [hlast]
  simp only [ActOf_yield, hw, if_true]
  refine .inl ?_
  unfold Oper.wp
  rw [ActOf_eval, hs]
  have : (s0.bind fun _ => Sem.pure Next.skip).run P w = .ok .skip w' := by
    rw [show (s0.bind fun _ => Sem.pure Next.skip) = (s0 >>= fun _ => pure Next.skip) from rfl, Sem.run_bind, hr]; rfl
  rw [this]
  simp only [Oper.upon]
  rw [hd]; exact k
end
section
variable {P : Program} {Q : Exit → Act → World → Prop} {w0 : World} {I0 : IM} {m : List Nat} {I : IM} {N : Nat} {ev : Ev} {l : List Oper} {C : List OB} (c : Cert) (R : Nat → MP) (F0 : List OB)
/-- RULE: a region that draws but for its last operation. -/
theorem drawL_rule {id : Nat} {L : List Oper} {w : World} {H : List OB} (o : Oper) (hL : L = l ++ [o]) (hlB : lastB l o = true) (cs sb rn : List Nat) (KL : (Nat → Nat) → Xs → List (List (Option Obj))) (D : (Nat → Nat) → Xs → Ev) (Hf : (Nat → Nat) → Xs → List OB) (s : St w0 I0 m I w (H ++ F0)) (hC : RoC I C) (hm : P.follows .mixedOrders = true)
    (hB : regionB l c = true) (hH : ∀ φ xs, hOf c (ancs l.toArray) 0 φ xs = H)
    (hk : ∀ φ xs, kindsB c (ancs l.toArray) cs sb rn φ xs l.length = true) (hp : Plain c (ancs l.toArray) l.length)
    (hr0 : ∀ φ xs g, resAll P C N ev l (fun i => (c.K φ xs).getD i .skip) (fun i => (c.V φ xs).getD i undef) (fun e => (c.HL φ xs).getD e []) (fun e i => ((c.NL φ xs).getD e []).getD i default) (ancs l.toArray) φ g 0 l = expAll (fun i => (c.K φ xs).getD i .skip) (fun i => (c.V φ xs).getD i undef) (fun e => (c.HL φ xs).getD e []) (fun e i => ((c.NL φ xs).getD e []).getD i default) (ancs l.toArray) l.length φ 0 l)
    (hkeepA : ∀ φ xs, keepsL (fun i => (c.K φ xs).getD i .skip) (fun e i => ((c.NL φ xs).getD e []).getD i default) (ancs l.toArray) c.S l.length 0 = KL φ xs) (hkeepB : ∀ φ xs, keepsL (fun i => (c.K φ xs).getD i .skip) (fun e i => ((c.NL φ xs).getD e []).getD i default) (ancs l.toArray) c.S l.length 1 = KL φ xs)
    (hreads0 : ∀ φ xs, readsL (fun i => (c.K φ xs).getD i .skip) (fun e => (c.HL φ xs).getD e []) (ancs l.toArray) c.S l.length false = readsL (fun i => (c.K φ xs).getD i .skip) (fun e => (c.HL φ xs).getD e []) (ancs l.toArray) c.S l.length true)
    (hD : ∀ φ xs, dOf l (c.V φ xs) = D φ xs) (hHf : ∀ φ xs, (c.HL φ xs).getD c.S.length [] ++ newsAll (fun i => (c.K φ xs).getD i .skip) (fun e i => ((c.NL φ xs).getD e []).getD i default) φ c.S.length l.length = Hf φ xs)
    (hsb : SubObs c sb) (hrn : RanObs P I c rn) (hrB : rowB c (ancs l.toArray) l.length 0 l.length = true) (hcalls : CallObs P I c (ancs l.toArray) R cs cs)
    (k0 : ∀ φ xs J w', I.Le J → St w0 I0 m J w' (Hf φ xs ++ F0) → impF R xs J cs (wpOp P (l ++ [o]).toArray Q l.length (Q .normal) (ActOf N (D φ xs ++ ev)) w')) :
    (Code.region id L.toArray true).wp P Q (ActOf N ev) w :=
  region_last 0 l o hm hL hlB (draw_any c R l.length F0 (fun _ _ => True) cs sb rn 0 (fun _ _ => []) (fun _ _ => .pure undef) KL D Hf s hC hm hB hH hk hp hr0 hkeepA hkeepB hreads0 hD hHf hsb hrn hrB (fun h => absurd h (Nat.lt_irrefl _)) (fun h => absurd h (Nat.lt_irrefl _)) (fun h => absurd h (Nat.lt_irrefl _)) hcalls
    (fun φ xs J w' F le st _ hF => by rw [hF (Nat.lt_irrefl _)] at st; exact k0 φ xs J w' le st))
end
end Go.Sep
