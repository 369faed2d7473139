/-
  Slots as a list, newest first; regions in the order of the text; calls; the ends of a body.
-/
import Derived.Test.YtcpmjogeafhpnaaDoorPpS2
set_option linter.all false
namespace Go.Sep
open Go.RowKit

abbrev Ev := List (Nat × Value)
def lookE : Ev → Nat → Value
  | [], _ => undef
  | e :: r, t => bif Nat.beq e.1 t then e.2 else lookE r t
def ActOf (N : Nat) (ev : Ev) : Act := ⟨((List.range N).map (lookE ev)).toArray, []⟩
def evalE (N : Nat) (ev : Ev) : Operand → Value
  | .tmp t => bif Nat.blt t N then lookE ev t else undef
  | .const v => v
  | .global g => .pointer (some ⟨g, 0, none⟩)
  | .func f => .func (.func f) #[] #[]
theorem ActOf_getD (N : Nat) (ev : Ev) (t : Nat) : (ActOf N ev).tmps.getD t undef = bif Nat.blt t N then lookE ev t else undef := by
  unfold ActOf
  by_cases h : t < N
  · have : Nat.blt t N = true := by rw [Nat.blt_eq]; exact h
    simp [h, this]
  · have : Nat.blt t N = false := by rw [Bool.eq_false_iff]; simpa [Nat.blt_eq] using h
    simp [h, this]
theorem ActOf_get (N : Nat) (ev : Ev) (t : Nat) : (ActOf N ev).tmps[t]? = bif Nat.blt t N then some (lookE ev t) else none := by
  unfold ActOf
  by_cases h : t < N
  · have : Nat.blt t N = true := by rw [Nat.blt_eq]; exact h
    simp [h, this]
  · have : Nat.blt t N = false := by rw [Bool.eq_false_iff]; simpa [Nat.blt_eq] using h
    simp [h, this]
theorem ActOf_eval (N : Nat) (ev : Ev) : (ActOf N ev).eval = evalE N ev := by
  funext x
  cases x with
  | tmp t => exact ActOf_getD N ev t
  | _ => rfl
theorem ActOf_congr {N : Nat} {ev ev' : Ev} (h : ∀ t, t < N → lookE ev t = lookE ev' t) : ActOf N ev = ActOf N ev' := by
  unfold ActOf
  rw [List.map_congr_left fun t ht => h t (by simpa using ht)]
def putE : Option Tmp → Value → Ev → Ev
  | some d, v, ev => (d, v) :: ev
  | none, _, ev => ev
theorem lookE_cons (d : Nat) (v : Value) (ev : Ev) (t : Nat) : lookE ((d, v) :: ev) t = if d = t then v else lookE ev t := by
  rw [show lookE ((d, v) :: ev) t = bif Nat.beq d t then v else lookE ev t from rfl]
  by_cases h : d = t
  · subst h; simp
  · have : Nat.beq d t = false := by rw [Bool.eq_false_iff]; simpa [Nat.beq_eq] using h
    simp [this, h]
theorem ActOf_put (N : Nat) (ev : Ev) (d : Option Tmp) (v : Value) : (ActOf N ev).put d v = ActOf N (putE d v ev) := by
  cases d with
  | none => rfl
  | some d =>
    simp only [Act.put, putE, ActOf, Act.mk.injEq, and_true]
    apply Array.ext (by simp)
    intro i h1 h2
    rw [Array.getElem_setIfInBounds (by simpa using h1)]
    simp only [List.getElem_toArray, List.getElem_map, List.getElem_range, lookE_cons]
def yieldE (N : Nat) (ops : Array Oper) (ev : Ev) (j : Nat) : Option Bool :=
  match (ops[j]?).bind (·.dst) with
  | none => none
  | some d => bif Nat.blt d N then (match lookE ev d with | .bool b => some b | _ => none) else none
theorem ActOf_yield (N : Nat) (ops : Array Oper) (ev : Ev) : yielded ops (ActOf N ev).tmps = yieldE N ops ev := by
  funext j
  unfold yielded yieldE
  cases h : (ops[j]?).bind (·.dst) with
  | none => simp
  | some d =>
    simp only [Option.bind_some, ActOf_get]
    cases hb : Nat.blt d N
    · simp
    · simp only [cond_true]
      cases lookE ev d <;> rfl

structure ResO where
  d : Ev
  H : List OB
  hs : List Hint
  n : Nat
  eqs : List (Nat × Nat)
/-- Operations, one behind the other; d: what is put into slots, newest first. -/
def execOps (P : Program) (C : List OB) (φ : Nat → Nat) (N : Nat) (ops : Array Oper) (ev : Ev) : List Oper → Ev → List OB → List Hint → Nat → Option ResO
  | [], d, H, hs, n => some ⟨d, H, hs, n, []⟩
  | o :: l, d, H, hs, n => match Region.wanted o (yieldE N ops (d ++ ev)) with
    | true => match exec P C φ (execOp (evalE N (d ++ ev)) o) H hs n with
      | some ⟨.value v, H', hs', n', e⟩ => (execOps P C φ N ops ev l (putE o.dst v d) H' hs' n').map fun r => { r with eqs := e ++ r.eqs }
      | some ⟨.skip, H', hs', n', e⟩ => (execOps P C φ N ops ev l (putE o.dst undef d) H' hs' n').map fun r => { r with eqs := e ++ r.eqs }
      | _ => none
    | false => execOps P C φ N ops ev l (putE o.dst undef d) H hs n
theorem putE_append (d : Option Tmp) (v : Value) (x y : Ev) : putE d v (x ++ y) = putE d v x ++ y := by cases d <;> rfl

section
variable {w0 : World} {I0 : IM} {m : List Nat} {I : IM} {P : Program} {Q : Exit → Act → World → Prop}

theorem eqsO_map {o : Option ResO} {e : List (Nat × Nat)} {r : ResO} (h : (o.map fun r => { r with eqs := e ++ r.eqs }) = some r) : ∃ r', o = some r' ∧ r = { r' with eqs := e ++ r'.eqs } := by
  cases o with
  | none => simp at h
  | some r' => simp at h; exact ⟨r', rfl, h.symm⟩

theorem execOps_sound {C F : List OB} {φ : Nat → Nat} {N : Nat} {ops : Array Oper} {ev : Ev} (hC : RoC I C) : ∀ (l l2 : List Oper) (d : Ev) (H : List OB) (hs : List Hint) (n : Nat) (w : World) (r : ResO),
    execOps P C φ N ops ev l d H hs n = some r → EqsOk r.eqs → St w0 I0 m I w (H ++ F) → (∀ j, φ (n + j) = w.heap.size + j) →
    (∀ w', St w0 I0 m I w' (r.H ++ F) → wpList P ops Q l2 (ActOf N (r.d ++ ev)) w') → wpList P ops Q (l ++ l2) (ActOf N (d ++ ev)) w
  | [], l2, d, H, hs, n, w, r, h, he, st, hφ, k => by
    simp only [execOps, Option.some.injEq] at h
    subst h
    exact k w st
  | o :: l, l2, d, H, hs, n, w, r, h, he, st, hφ, k => by
    simp only [execOps] at h
    rw [List.cons_append]
    refine wpList_step fun K hK => ?_
    rw [ActOf_yield]
    split at h
    · rename_i hw
      rw [if_pos hw]
      split at h
      · rename_i v H' hs' n' e hx
        obtain ⟨r', h', rfl⟩ := eqsO_map h
        obtain ⟨w', hr, st', hφ'⟩ := exec_sound (F := F) hC _ H hs n w _ hx (fun p hp => he p (by simp [hp])) st hφ
        unfold Oper.wp
        rw [ActOf_eval, hr]
        simp only [Oper.upon]
        refine hK _ _ ?_
        rw [ActOf_put, putE_append]
        exact execOps_sound hC l l2 _ H' hs' n' w' r' h' (fun p hp => he p (by simp [hp])) st' hφ' k
      · rename_i H' hs' n' e hx
        obtain ⟨r', h', rfl⟩ := eqsO_map h
        obtain ⟨w', hr, st', hφ'⟩ := exec_sound (F := F) hC _ H hs n w _ hx (fun p hp => he p (by simp [hp])) st hφ
        unfold Oper.wp
        rw [ActOf_eval, hr]
        simp only [Oper.upon]
        refine hK _ _ ?_
        rw [ActOf_put, putE_append]
        exact execOps_sound hC l l2 _ H' hs' n' w' r' h' (fun p hp => he p (by simp [hp])) st' hφ' k
      · cases h
    · rename_i hw
      rw [if_neg (by simp [hw])]
      refine hK _ _ ?_
      rw [ActOf_put, putE_append]
      exact execOps_sound hC l l2 _ H hs n w r h he st hφ k

/-- RULE: the next q operations, in the order of the text. -/
theorem ops_rule {C : List OB} {N : Nat} {ops : Array Oper} {ev : Ev} {l : List Oper} {w : World} (H F : List OB) (q : Nat) (hs : List Hint) (c : Nat) (D : (Nat → Nat) → Ev) (H' : (Nat → Nat) → List OB) (ks : (Nat → Nat) → List Nat)
    (s : St w0 I0 m I w (H ++ F)) (hC : RoC I C)
    (h : ∀ φ, execOps P C φ N ops ev (l.take q) [] H hs 0 = some ⟨D φ, H' φ, [], c, dup (ks φ)⟩)
    (k : ∀ φ w', St w0 I0 m I w' (H' φ ++ F) → wpList P ops Q (l.drop q) (ActOf N (D φ ++ ev)) w') : wpList P ops Q l (ActOf N ev) w := by
  have := execOps_sound (Q := Q) (F := F) (φ := fun j => w.heap.size + j) hC (l.take q) (l.drop q) [] H hs 0 w _ (h _) (dup_ok _) s (fun j => by simp) (k _)
  rwa [List.take_append_drop] at this
theorem ops_done {N : Nat} {ops : Array Oper} {ev : Ev} {l : List Oper} {w : World} (hl : l = []) (k : Q .normal (ActOf N ev) w) : wpList P ops Q l (ActOf N ev) w := by
  subst hl; exact k

/-- The call that stands next. -/
def callOf (P : Program) (N : Nat) (ops : Array Oper) (ev : Ev) : List Oper → Option (FuncId × Array Value × Option Tmp)
  | [] => none
  | o :: _ => match Region.wanted o (yieldE N ops ev) with
    | true => match look P [] [] (execOp (evalE N ev) o) [] with
      | some (.enter f args, []) => some (f, args, o.dst)
      | _ => none
    | false => none
theorem callOf_spec {N : Nat} {ops : Array Oper} {ev : Ev} {l : List Oper} {f : FuncId} {args : Array Value} {d : Option Tmp} (h : callOf P N ops ev l = some (f, args, d)) :
    ∃ o l', l = o :: l' ∧ o.dst = d ∧ Region.wanted o (yieldE N ops ev) = true ∧ ∀ w, (execOp (evalE N ev) o).run P w = .ok (.enter f args) w := by
  cases l with
  | nil => simp [callOf] at h
  | cons o l' =>
    simp only [callOf] at h
    split at h
    · rename_i hw
      split at h
      · rename_i f' args' hx
        simp only [Option.some.injEq, Prod.mk.injEq] at h
        obtain ⟨rfl, rfl, rfl⟩ := h
        exact ⟨o, l', rfl, rfl, hw, fun w => look_sound _ _ _ hx (fun p hp => by simp at hp) (Knows.nil w [] [])⟩
      · cases h
    · cases h

/-- RULE: a call that writes nothing that was there. -/
theorem call_rule {N : Nat} {ops : Array Oper} {ev : Ev} {l : List Oper} {H : List OB} {w : World} {f : FuncId} {args : Array Value} {R : Value → IM → Prop} (d : Option Tmp)
    (s : St w0 I0 m I w H) (hf : Fun P f args I R) (h : callOf P N ops ev l = some (f, args, d))
    (k : ∀ v I' w', I.Le I' → R v I' → St w0 I0 m I' w' H → wpList P ops Q l.tail (ActOf N (putE d v ev)) w') : wpList P ops Q l (ActOf N ev) w := by
  obtain ⟨o, l', rfl, rfl, hw, hr⟩ := callOf_spec h
  refine wpList_step fun K hK => ?_
  rw [ActOf_yield, if_pos hw]
  unfold Oper.wp
  rw [ActOf_eval, hr]
  simp only [Oper.upon]
  refine (hf w s.sub).mono ?_
  rintro e w' ⟨v, I', H', rfl, p, r⟩
  refine hK _ _ ?_
  rw [ActOf_put]
  exact k v I' w' p.le r (s.after p)
/-- .. to which blocks of one's own are handed over. -/
theorem callM_rule {N : Nat} {ops : Array Oper} {ev : Ev} {l : List Oper} {Hi Hr : List OB} {w : World} {f : FuncId} {args : Array Value} {R : Value → IM → List OB → Prop} (d : Option Tmp)
    (s : St w0 I0 m I w (Hi ++ Hr)) (hf : FunM P f args I Hi R) (h : callOf P N ops ev l = some (f, args, d))
    (k : ∀ v I' w' H', I.Le I' → R v I' H' → St w0 I0 m I' w' (H' ++ Hr) → wpList P ops Q l.tail (ActOf N (putE d v ev)) w') : wpList P ops Q l (ActOf N ev) w := by
  obtain ⟨o, l', rfl, rfl, hw, hr⟩ := callOf_spec h
  refine wpList_step fun K hK => ?_
  rw [ActOf_yield, if_pos hw]
  unfold Oper.wp
  rw [ActOf_eval, hr]
  simp only [Oper.upon]
  have hnd := s.nodup
  rw [List.map_append, List.nodup_append] at hnd
  refine (hf w s.sub ⟨fun e he => s.own e (by simp [he]), fun e he => s.free e (by simp [he]), hnd.1⟩).mono ?_
  rintro e w' ⟨v, I', H', rfl, p, r⟩
  refine hK _ _ ?_
  rw [ActOf_put]
  exact k v I' w' H' p.le r (s.afterM p)

/-- .. to which the frame is handed over. -/
theorem callF_rule {N : Nat} {ops : Array Oper} {ev : Ev} {l : List Oper} {H F : List OB} {w : World} {f : FuncId} {args : Array Value} {R : Value → IM → List OB → Prop} (d : Option Tmp)
    (s : St w0 I0 m I w (H ++ F)) (hf : FunM P f args I F R) (h : callOf P N ops ev l = some (f, args, d))
    (k : ∀ v I' w' F', I.Le I' → R v I' F' → St w0 I0 m I' w' (H ++ F') → wpList P ops Q l.tail (ActOf N (putE d v ev)) w') : wpList P ops Q l (ActOf N ev) w :=
  callM_rule d (s.perm List.perm_append_comm) hf h fun v I' w' H' le r st => k v I' w' H' le r (st.perm List.perm_append_comm)

/-- RULE: a region in the order of the text. -/
theorem region_rule {id : Nat} {l : List Oper} {a : Act} {w : World} (h : wpList P l.toArray Q l a w) : (Code.region id l.toArray false).wp P Q a w := wp_region_lit h

/-- RULE: where a body ends. -/
theorem ret_rule {fn : Func} {N : Nat} {ev : Ev} {w : World} {R : Ending → World → Prop} {C : List OB} (H F : List OB) (v : Value) (hs : List Hint) (ks : List Nat) (s : St w0 I0 m I w (H ++ F)) (hC : RoC I C)
    (h : look P C H (results fn (ActOf N ev).tmps) hs = some (v, dup ks)) (hR : R (.returned v) w) : bodyPost P fn R .ret (ActOf N ev) w :=
  ⟨rfl, v, look_sound _ _ _ h (dup_ok _) (s.knowsF hC hs), hR⟩
theorem end_rule {fn : Func} {N : Nat} {ev : Ev} {w : World} {R : Ending → World → Prop} {C : List OB} (H F : List OB) (v : Value) (hs : List Hint) (ks : List Nat) (s : St w0 I0 m I w (H ++ F)) (hC : RoC I C)
    (h : look P C H (results fn (ActOf N ev).tmps) hs = some (v, dup ks)) (hR : R (.returned v) w) : bodyPost P fn R .normal (ActOf N ev) w :=
  ⟨rfl, v, look_sound _ _ _ h (dup_ok _) (s.knowsF hC hs), hR⟩

/-- RULE: a body is entered. -/
theorem enter_rule {f : FuncId} {fn : Func} {c : Code} {args : Array Value} {R : Value → IM → Prop} (N : Nat) (ev : Ev) (hf : P.funcs[f]? = some fn) (hb : fn.body = some c)
    (ha : (⟨args ++ Array.replicate (fn.ntmps - args.size) undef, []⟩ : Act) = ActOf N ev)
    (h : ∀ w, St w I [] I w [] → c.wp P (bodyPost P fn (Post w I [] fun v I' _ => R v I')) (ActOf N ev) w) : Fun P f args I R :=
  fun w hw => calls_of_wp hf hb (ha ▸ h w (St.start hw))
theorem enterM_rule {f : FuncId} {fn : Func} {c : Code} {args : Array Value} {H : List OB} {R : Value → IM → List OB → Prop} (N : Nat) (ev : Ev) (hf : P.funcs[f]? = some fn) (hb : fn.body = some c)
    (ha : (⟨args ++ Array.replicate (fn.ntmps - args.size) undef, []⟩ : Act) = ActOf N ev)
    (h : ∀ w, St w I (H.map (·.1)) I w H → c.wp P (bodyPost P fn (Post w I (H.map (·.1)) R)) (ActOf N ev) w) : FunM P f args I H R :=
  fun w hw o => calls_of_wp hf hb (ha ▸ h w (St.startM hw o))
theorem cond_true_rule {c : Operand} {x y : Code} {N : Nat} {ev : Ev} {w : World} {b : Bool} (hc : evalE N ev c = .bool b) (hb : b = true) (h : x.wp P Q (ActOf N ev) w) : (Code.cond c x y).wp P Q (ActOf N ev) w :=
  wp_cond_true (by rw [ActOf_eval, hc, hb]) h
theorem cond_false_rule {c : Operand} {x y : Code} {N : Nat} {ev : Ev} {w : World} {b : Bool} (hc : evalE N ev c = .bool b) (hb : b = false) (h : y.wp P Q (ActOf N ev) w) : (Code.cond c x y).wp P Q (ActOf N ev) w :=
  wp_cond_false (by rw [ActOf_eval, hc, hb]) h
end
theorem kcast {A B : Prop} (e : A = B) (a : A) : B := e ▸ a
end Go.Sep
