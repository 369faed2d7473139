/-
  THE RULE for a region that draws its order.
-/
import Derived.Test.YtcpmjogeafhpnaaDoorPpS4
set_option linter.all false
namespace Go.Sep
open Go.RowKit

structure MP where
  p : UX → IM → Prop
  mono : ∀ {x : UX} {J J' : IM}, J.Le J' → p x J → p x J'
def MP.any : MP := ⟨fun _ _ => True, fun _ _ => trivial⟩

def dOf : List Oper → List Value → Ev
  | o :: l, v :: V => match o.dst with
    | some d => (d, v) :: dOf l V
    | none => dOf l V
  | _, _ => []
def newsAll (kd : Nat → Kd) (nl : Nat → Nat → Obj) (φ : Nat → Nat) (e n : Nat) : List OB := (List.range n).filterMap fun j => match kd j with | .new => some (φ j, nl e j) | _ => none
def isCallK : Kd → Bool
  | .call _ _ => true
  | .act _ => true
  | _ => false
def isSubK : Kd → Bool
  | .sub _ _ _ _ => true
  | _ => false
def isRanK : Kd → Bool
  | .ran _ => true
  | _ => false
/-- closed facts on the one operation that takes the row: it alone is one; it is ordered against each store -/
def rowB (c : Cert) (A : List Nat) (rp e n : Nat) : Bool :=
  (List.range n).all (fun i => !Nat.beq (c.T.getD i 0) 7 || Nat.beq i rp) && (!Nat.blt rp n || Nat.beq (c.T.getD rp 0) 7) &&
  (!Nat.blt rp n || (Nat.ble e c.S.length && (List.range c.S.length).all fun b => bif Nat.blt b e then (A.getD rp 0).testBit (c.S.getD b 0) else (A.getD (c.S.getD b 0) 0).testBit rp))
def impF (R : Nat → MP) (xs : Xs) (J : IM) : List Nat → Prop → Prop
  | [], p => p
  | j :: js, p => (R j).p (xs j) J → impF R xs J js p
theorem impF_spec {R : Nat → MP} {xs : Xs} {J : IM} {p : Prop} : ∀ {l : List Nat}, impF R xs J l p → (∀ j ∈ l, (R j).p (xs j) J) → p
  | [], h, _ => h
  | j :: l, h, k => impF_spec (h (k j (by simp))) fun q hq => k q (by simp [hq])

def resAll (P : Program) (C : List OB) (N : Nat) (ev : Ev) (l : List Oper) (kd : Nat → Kd) (v : Nat → Value) (h : Nat → List OB) (nl : Nat → Nat → Obj) (A : List Nat) (φ : Nat → Nat) (g : Nat → Value) : Nat → List Oper → List OR
  | _, [] => []
  | i, o :: r => resOf P C N ev l kd v h nl A φ g i o :: resAll P C N ev l kd v h nl A φ g (i + 1) r
def expAll (kd : Nat → Kd) (v : Nat → Value) (h : Nat → List OB) (nl : Nat → Nat → Obj) (A : List Nat) (n : Nat) (φ : Nat → Nat) : Nat → List Oper → List OR
  | _, [] => []
  | i, _ :: r => expOf kd v h nl A n φ i :: expAll kd v h nl A n φ (i + 1) r
theorem resAll_spec {P : Program} {C : List OB} {N : Nat} {ev : Ev} {l : List Oper} {kd : Nat → Kd} {v : Nat → Value} {h : Nat → List OB} {nl : Nat → Nat → Obj} {A : List Nat} {n : Nat} {φ : Nat → Nat} {g : Nat → Value} : ∀ {r : List Oper} {k : Nat}, resAll P C N ev l kd v h nl A φ g k r = expAll kd v h nl A n φ k r →
    ∀ (j : Nat) (o : Oper), r[j]? = some o → resOf P C N ev l kd v h nl A φ g (k + j) o = expOf kd v h nl A n φ (k + j)
  | [], _, _, j, o, ho => by simp at ho
  | o' :: r, k, h, 0, o, ho => by
    simp only [resAll, expAll, List.cons.injEq] at h
    obtain rfl : o' = o := by simpa using ho
    exact h.1
  | o' :: r, k, h, j + 1, o, ho => by
    simp only [resAll, expAll, List.cons.injEq] at h
    have := resAll_spec h.2 j o (by simpa using ho)
    simpa [Nat.add_assoc, Nat.add_comm 1 j] using this

/-- closed facts on the kinds of all operations -/
def kindsB (c : Cert) (A : List Nat) (cs sb rn : List Nat) (φ : Nat → Nat) (xs : Xs) (n : Nat) : Bool :=
  (List.range n).all fun i => kindOk c A i (kdOf c A i φ xs) && skipOk (vOf c A i φ xs) (kdOf c A i φ xs) && (isCallK (kdOf c A i φ xs) == cs.contains i) && Nat.beq (tagOf (kdOf c A i φ xs)) (c.T.getD i 0) && (!isSubK (kdOf c A i φ xs) || sb.contains i) && (!isRanK (kdOf c A i φ xs) || rn.contains i)

/-- The certificate without masks is the one with them. -/
structure Plain (c : Cert) (A : List Nat) (n : Nat) : Prop where
  k : ∀ φ xs, (List.range n).map (fun i => kdOf c A i φ xs) = c.K φ xs
  v : ∀ φ xs, (List.range n).map (fun i => vOf c A i φ xs) = c.V φ xs
  h : ∀ φ xs, (List.range (c.S.length + 1)).map (fun e => hOf c A e φ xs) = c.HL φ xs
  n : ∀ φ xs, ((List.range (c.S.length + 1)).map fun e => (List.range n).map fun i => nOf c A e i φ xs) = c.NL φ xs
theorem Plain.nn {c : Cert} {A : List Nat} {n : Nat} (hp : Plain c A n) (φ : Nat → Nat) (xs : Xs) : (fun e i => nOf c A e i φ xs) = fun e i => ((c.NL φ xs).getD e []).getD i default := by
  funext e i
  have hlen : ∀ φ xs, (c.NL φ xs).length = c.S.length + 1 := fun φ xs => by rw [← hp.n φ xs]; simp
  have hlen2 : ∀ φ xs, e < c.S.length + 1 → ((c.NL φ xs).getD e []).length = n := fun φ xs he => by rw [← hp.n φ xs]; simp [he]
  rcases Nat.lt_or_ge e (c.S.length + 1) with h | h
  · rcases Nat.lt_or_ge i n with h2 | h2
    · rw [← hp.n φ xs]; simp [h, h2]
    · unfold nOf
      have g : ∀ (L : List Obj), L.length ≤ i → L.getD i default = default := fun L hL => by rw [List.getD_eq_getElem?_getD, List.getElem?_eq_none hL]; rfl
      rw [g _ (by rw [hlen2 _ _ h]; exact h2), g _ (by rw [hlen2 _ _ h]; exact h2)]
  · unfold nOf
    have e1 : ∀ φ xs, (c.NL φ xs).getD e [] = [] := fun φ xs => by rw [List.getD_eq_getElem?_getD, List.getElem?_eq_none (by rw [hlen]; exact h)]; rfl
    rw [e1, e1]
/-- A store turns no block that isn't made ahead of it. -/
def keepsL (kd : Nat → Kd) (nl : Nat → Nat → Obj) (A : List Nat) (S : List Nat) (n d : Nat) : List (List (Option Obj)) :=
  (List.range S.length).map fun b => (List.range n).map fun j => bif (A.getD (S.getD b 0) 0).testBit j then none else (match kd j with | .new => some (nl (b + d) j) | _ => none)
theorem Plain.kd {c : Cert} {A : List Nat} {n : Nat} (hp : Plain c A n) (φ : Nat → Nat) (xs : Xs) : (fun i => kdOf c A i φ xs) = fun i => (c.K φ xs).getD i .skip := by
  funext i
  have hlen : ∀ φ xs, (c.K φ xs).length = n := fun φ xs => by rw [← hp.k φ xs]; simp
  rcases Nat.lt_or_ge i n with h | h
  · rw [← hp.k φ xs]; simp [h]
  · unfold kdOf
    rw [List.getD_eq_getElem?_getD, List.getD_eq_getElem?_getD, List.getElem?_eq_none (by rw [hlen]; exact h), List.getElem?_eq_none (by rw [hlen]; exact h)]
theorem Plain.vv {c : Cert} {A : List Nat} {n : Nat} (hp : Plain c A n) (φ : Nat → Nat) (xs : Xs) : (fun i => vOf c A i φ xs) = fun i => (c.V φ xs).getD i undef := by
  funext i
  have hlen : ∀ φ xs, (c.V φ xs).length = n := fun φ xs => by rw [← hp.v φ xs]; simp
  rcases Nat.lt_or_ge i n with h | h
  · rw [← hp.v φ xs]; simp [h]
  · unfold vOf
    rw [List.getD_eq_getElem?_getD, List.getD_eq_getElem?_getD, List.getElem?_eq_none (by rw [hlen]; exact h), List.getElem?_eq_none (by rw [hlen]; exact h)]
theorem Plain.hh {c : Cert} {A : List Nat} {n : Nat} (hp : Plain c A n) (φ : Nat → Nat) (xs : Xs) : (fun e => hOf c A e φ xs) = fun e => (c.HL φ xs).getD e [] := by
  funext i
  have hlen : ∀ φ xs, (c.HL φ xs).length = c.S.length + 1 := fun φ xs => by rw [← hp.h φ xs]; simp
  rcases Nat.lt_or_ge i (c.S.length + 1) with h | h
  · rw [← hp.h φ xs]; simp [h]
  · unfold hOf
    rw [List.getD_eq_getElem?_getD, List.getD_eq_getElem?_getD, List.getElem?_eq_none (by rw [hlen]; exact h), List.getElem?_eq_none (by rw [hlen]; exact h)]

/-- An operation that writes nothing that was there, and may make what is never written. -/
def ActF (P : Program) (m : Sem Value) (J : IM) (R : Value → IM → Prop) : Prop := ∀ w, J.Sub w → ∃ v J' w' H', m.run P w = .ok v w' ∧ St w J [] J' w' H' ∧ R v J'
theorem ActF.mono {P : Program} {m : Sem Value} {I : IM} {R R' : Value → IM → Prop} (h : ActF P m I R) (k : ∀ v I', I.Le I' → R v I' → R' v I') : ActF P m I R' := fun w hw => by
  obtain ⟨v, J', w', H', hr, s, r⟩ := h w hw
  exact ⟨v, J', w', H', hr, s, k v J' s.le r⟩
/-- What is owed for a call. -/
def CallOb (P : Program) (I : IM) (c : Cert) (A : List Nat) (R : Nat → MP) (cs : List Nat) (i : Nat) : Prop :=
  ∀ φ xs J, I.Le J → impF R xs J (cs.filter fun j => (A.getD i 0).testBit j) (match (c.K φ xs).getD i .skip with
    | .call f args => Fun P f args J fun v J' => ∃ x, v = (c.V φ (updX xs i x)).getD i undef ∧ (R i).p x J'
    | .act m => ActF P m J fun v J' => ∃ x, v = (c.V φ (updX xs i x)).getD i undef ∧ (R i).p x J'
    | _ => False)
def CallObs (P : Program) (I : IM) (c : Cert) (A : List Nat) (R : Nat → MP) (cs : List Nat) : List Nat → Prop
  | [] => True
  | i :: l => CallOb P I c A R cs i ∧ CallObs P I c A R cs l
theorem CallObs.get {P : Program} {I : IM} {c : Cert} {A : List Nat} {R : Nat → MP} {cs : List Nat} : ∀ {l : List Nat}, CallObs P I c A R cs l → ∀ i ∈ l, CallOb P I c A R cs i
  | [], _, i, hi => by simp at hi
  | j :: l, h, i, hi => by
    rcases List.mem_cons.1 hi with rfl | hi
    · exact h.1
    · exact h.2.get i hi

/-- What is owed for a value in another form. -/
def SubObs (c : Cert) : List Nat → Prop
  | [] => True
  | i :: l => (∀ φ xs, match (c.K φ xs).getD i .skip with
      | .sub _ _ _ raw => raw = (c.V φ xs).getD i undef
      | _ => False) ∧ SubObs c l
theorem SubObs.get {c : Cert} : ∀ {l : List Nat}, SubObs c l → ∀ i ∈ l, ∀ φ xs, match (c.K φ xs).getD i .skip with
      | .sub _ _ _ raw => raw = (c.V φ xs).getD i undef
      | _ => False
  | [], _, i, hi => by simp at hi
  | j :: l, h, i, hi => by
    rcases List.mem_cons.1 hi with rfl | hi
    · exact h.1
    · exact h.2.get i hi

/-- What is owed for an operation whose outcome is shown by hand. -/
def RanObs (P : Program) (I : IM) (c : Cert) : List Nat → Prop
  | [] => True
  | i :: l => (∀ φ xs J w, I.Le J → J.Sub w → match (c.K φ xs).getD i .skip with
      | .ran m => m.run P w = .ok ((c.V φ xs).getD i undef) w
      | _ => False) ∧ RanObs P I c l
theorem RanObs.get {P : Program} {I : IM} {c : Cert} : ∀ {l : List Nat}, RanObs P I c l → ∀ i ∈ l, ∀ φ xs J w, I.Le J → J.Sub w → match (c.K φ xs).getD i .skip with
      | .ran m => m.run P w = .ok ((c.V φ xs).getD i undef) w
      | _ => False
  | [], _, i, hi => by simp at hi
  | j :: l, h, i, hi => by
    rcases List.mem_cons.1 hi with rfl | hi
    · exact h.1
    · exact h.2.get i hi

section
variable {P : Program} {Q : Exit → Act → World → Prop} {w0 : World} {I0 : IM} {m : List Nat} {I : IM} {N : Nat} {ev : Ev} {l : List Oper} {C : List OB} (c : Cert) (R : Nat → MP) (rp : Nat) (F0 : List OB) (RF : UX → List OB → Prop)

abbrev LT (listed : Array Bool) (i : Nat) : Prop := listed.getD i false = true

def newOf (A : List Nat) (φ : Nat → Nat) (xs : Xs) (e i : Nat) : Option OB := match kdOf c A i φ xs with
  | .new => some (φ i, nOf c A e i φ xs)
  | _ => none
def fNew (A : List Nat) (φ : Nat → Nat) (xs : Xs) (e : Nat) (listed : Array Bool) (n : Nat) : List OB := (List.range n).filterMap fun i => if listed.getD i false then newOf c A φ xs e i else none

theorem fm_congr {α β : Type} {f g : α → Option β} : ∀ {l : List α}, (∀ x ∈ l, f x = g x) → l.filterMap f = l.filterMap g
  | [], _ => rfl
  | x :: l, h => by
    rw [List.filterMap_cons, List.filterMap_cons, h x (by simp), fm_congr fun y hy => h y (by simp [hy])]
theorem fNew_congr {A : List Nat} {φ φ' : Nat → Nat} {xs xs' : Xs} {e e' : Nat} {listed listed' : Array Bool} {n : Nat} (h : ∀ i, i < n → (if listed'.getD i false then newOf c A φ' xs' e' i else none) = (if listed.getD i false then newOf c A φ xs e i else none)) : fNew c A φ' xs' e' listed' n = fNew c A φ xs e listed n :=
  fm_congr fun i hi => h i (by simpa using hi)
theorem fNew_add {A : List Nat} {φ φ' : Nat → Nat} {xs xs' : Xs} {e : Nat} {listed listed' : Array Bool} {i : Nat} {b : OB} (hl : listed.getD i false = false) (hl' : listed'.getD i false = true) (hb : newOf c A φ' xs' e i = some b) :
    ∀ {n : Nat}, i < n → (∀ j, j < n → j ≠ i → (if listed'.getD j false then newOf c A φ' xs' e j else none) = (if listed.getD j false then newOf c A φ xs e j else none)) → (fNew c A φ' xs' e listed' n).Perm (b :: fNew c A φ xs e listed n)
  | 0, h, _ => by omega
  | n + 1, h, hj => by
    unfold fNew
    rw [List.range_succ, List.filterMap_append, List.filterMap_append]
    by_cases hin : i = n
    · subst hin
      have := fNew_congr c (A := A) (φ := φ) (φ' := φ') (xs := xs) (xs' := xs') (e := e) (e' := e) (listed := listed) (listed' := listed') (n := i) (fun j hji => hj j (by omega) (by omega))
      unfold fNew at this
      rw [this]
      simp only [List.filterMap_cons, List.filterMap_nil, hl, hl', hb, if_true, Bool.false_eq_true, if_false, List.append_nil]
      exact List.perm_append_comm
    · have := fNew_add hl hl' hb (n := n) (by omega) (fun j hji hne => hj j (by omega) hne)
      unfold fNew at this
      simp only [List.filterMap_cons, List.filterMap_nil, hj n (by omega) (fun h => hin h.symm)]
      exact List.Perm.append_right _ this
/-- in two parts -/
theorem fm_parts {β : Type} {f : Nat → Option β} {p q : Nat → Bool} (hq : ∀ j, q j = true → p j = true) : ∀ (l : List Nat), (l.filterMap fun j => if p j then f j else none).Perm ((l.filterMap fun j => bif q j then f j else none) ++ (l.filterMap fun j => if p j = true ∧ q j = false then f j else none))
  | [] => by simp
  | j :: l => by
    have ih := fm_parts (f := f) hq l
    rw [List.filterMap_cons, List.filterMap_cons, List.filterMap_cons]
    cases hqj : q j
    · cases hpj : p j
      · simpa [hqj, hpj] using ih
      · simp only [hqj, hpj, if_true, cond_false, and_self]
        cases hf : f j
        · simpa using ih
        · simp only
          exact (ih.cons _).trans (List.perm_middle.symm)
    · have hpj := hq j hqj
      simp only [hqj, hpj, if_true, cond_true, Bool.true_eq_false, and_false, if_false]
      cases hf : f j
      · simpa using ih
      · simp only [List.cons_append]
        exact ih.cons _

structure RInv (w0 : World) (I0 : IM) (m : List Nat) (I : IM) (N : Nat) (ev : Ev) (l : List Oper) (A : List Nat) (listed : Array Bool) (a : Act) (w : World) (φ : Nat → Nat) (xs : Xs) (J : IM) (E : Ev) (cur : Nat) (F : List OB) : Prop where
  closed : Closed l.toArray listed
  size : listed.size = l.length
  act : a = ActOf N E
  le : I.Le J
  on : ∀ (i : Nat) (o : Oper) (d : Nat), l[i]? = some o → o.dst = some d → LT listed i → lookE E d = vOf c A i φ xs
  off : ∀ (i : Nat) (o : Oper) (d : Nat), l[i]? = some o → o.dst = some d → ¬ LT listed i → lookE E d = lookE ev d
  rest : ∀ t, (∀ (i : Nat) (o : Oper), l[i]? = some o → o.dst ≠ some t) → lookE E t = lookE ev t
  cur_le : cur ≤ c.S.length
  cur_on : ∀ b, b < c.S.length → (LT listed (c.S.getD b 0) ↔ b < cur)
  st : St w0 I0 m J w ((hOf c A cur φ xs ++ fNew c A φ xs cur listed l.length) ++ F)
  row : (LT listed rp → RF (xs rp) F) ∧ (¬ LT listed rp → F = F0)
  facts : ∀ i, i < l.length → LT listed i → isCallK (kdOf c A i φ xs) = true → (R i).p (xs i) J

theorem mix_look {A : List Nat} {φ : Nat → Nat} {xs : Xs} {g : Nat → Value} {E : Ev} {i t : Nat} : ∀ (l : List Oper) (j : Nat),
    (∀ (q : Nat) (o : Oper), l[q]? = some o → o.dst = some t → lookE E t = bif (A.getD i 0).testBit (j + q) then vOf c A (j + q) φ xs else bif (A.getD (j + q) 0).testBit i then lookE ev t else g (j + q)) →
    ((∀ (q : Nat) (o : Oper), l[q]? = some o → o.dst ≠ some t) → lookE E t = lookE ev t) → lookE (mixE (fun q => vOf c A q φ xs) A ev g i j l) t = lookE E t
  | [], j, _, h2 => (h2 (by simp)).symm
  | o :: l, j, h1, h2 => by
    have ih := mix_look (E := E) (t := t) l (j + 1) (fun q o' ho hd => by
      have := h1 (q + 1) o' (by simpa using ho) hd
      simpa [Nat.add_assoc, Nat.add_comm 1 q] using this)
    have hskip : o.dst ≠ some t → lookE (mixE (fun q => vOf c A q φ xs) A ev g i (j + 1) l) t = lookE E t := fun hne => ih (fun hq => h2 fun q o' ho => by
      cases q with
      | zero => simp at ho; rw [← ho]; exact hne
      | succ q => exact hq q o' (by simpa using ho))
    simp only [mixE]
    cases hd : o.dst with
    | none => exact hskip (by simp [hd])
    | some d =>
      simp only
      rw [lookE_cons]
      by_cases hdt : d = t
      · subst hdt
        rw [if_pos rfl]
        exact (by simpa using h1 0 o (by simp) hd : lookE E d = _).symm
      · rw [if_neg hdt]; exact hskip (by rw [hd]; simpa using hdt)

theorem nodupD_spec : ∀ {l : List Oper}, nodupD l = true → ∀ (i j : Nat) (o o' : Oper) (d : Nat), l[i]? = some o → l[j]? = some o' → o.dst = some d → o'.dst = some d → i = j
  | [], _, i, j, o, o', d, h, _, _, _ => by simp at h
  | x :: l, hn, i, j, o, o', d, hi, hj, hd, hd' => by
    simp only [nodupD, Bool.and_eq_true] at hn
    have key : ∀ (y z : Oper) (q : Nat), x = y → l[q]? = some z → y.dst = some d → z.dst = some d → False := fun y z q hxy hz hy hzd => by
      subst hxy
      have h1 := hn.1
      rw [hy] at h1
      simp only [Bool.not_eq_true', List.any_eq_false] at h1
      have := h1 z (List.mem_of_getElem? hz)
      rw [hzd] at this
      simp at this
    cases i with
    | zero =>
      cases j with
      | zero => rfl
      | succ j => simp at hi hj; exact (key o o' j hi hj hd hd').elim
    | succ i =>
      cases j with
      | zero => simp at hi hj; exact (key o' o i hj hi hd' hd).elim
      | succ j => simp at hi hj; rw [nodupD_spec hn.2 i j o o' d hi hj hd hd']

theorem bits_listed {A : List Nat} (hA : A = ancs l.toArray) {listed : Array Bool} (hc : Closed l.toArray listed) {j t : Nat} {o : Oper} (ho : l[j]? = some o) (hl : LT listed j) (ht : (bitsOf A j).testBit t = true) : LT listed t := by
  unfold bitsOf at ht
  rw [Nat.testBit_or, Bool.or_eq_true] at ht
  rcases ht with h | h
  · subst hA
    exact reach_spec (ops := l.toArray) hc t j o (by simpa using ho) (fun e he hb => hc j o (by simpa using ho) hl e he hb) h
  · rw [Nat.testBit_two_pow] at h
    have : j = t := by simpa using h
    subst this; exact hl

theorem kd_same {A : List Nat} {i : Nat} {φ φ' : Nat → Nat} {xs xs' : Xs} (h : ∀ t, (bitsOf A i).testBit t = true → φ' t = φ t ∧ xs' t = xs t) : kdOf c A i φ' xs' = kdOf c A i φ xs ∧ vOf c A i φ' xs' = vOf c A i φ xs := by
  have h1 : mkN (bitsOf A i) φ' = mkN (bitsOf A i) φ := by
    funext t; unfold mkN
    cases hb : (bitsOf A i).testBit t
    · rfl
    · simp [(h t hb).1]
  have h2 : mkX (bitsOf A i) xs' = mkX (bitsOf A i) xs := by
    funext t; unfold mkX
    cases hb : (bitsOf A i).testBit t
    · rfl
    · simp [(h t hb).2]
  unfold kdOf vOf
  rw [h1, h2]; exact ⟨rfl, rfl⟩
theorem n_same {A : List Nat} {e i : Nat} {φ φ' : Nat → Nat} {xs xs' : Xs} (h : ∀ t, (bitsOf A i ||| hBits c A e).testBit t = true → φ' t = φ t ∧ xs' t = xs t) : nOf c A e i φ' xs' = nOf c A e i φ xs := by
  have h1 : mkN (bitsOf A i ||| hBits c A e) φ' = mkN (bitsOf A i ||| hBits c A e) φ := by
    funext t; unfold mkN
    cases hb : (bitsOf A i ||| hBits c A e).testBit t
    · rfl
    · simp [(h t hb).1]
  have h2 : mkX (bitsOf A i ||| hBits c A e) xs' = mkX (bitsOf A i ||| hBits c A e) xs := by
    funext t; unfold mkX
    cases hb : (bitsOf A i ||| hBits c A e).testBit t
    · rfl
    · simp [(h t hb).2]
  unfold nOf
  rw [h1, h2]
theorem h_same {A : List Nat} {e : Nat} {φ φ' : Nat → Nat} {xs xs' : Xs} (h : ∀ t, (hBits c A e).testBit t = true → φ' t = φ t ∧ xs' t = xs t) : hOf c A e φ' xs' = hOf c A e φ xs := by
  have h1 : mkN (hBits c A e) φ' = mkN (hBits c A e) φ := by
    funext t; unfold mkN
    cases hb : (hBits c A e).testBit t
    · rfl
    · simp [(h t hb).1]
  have h2 : mkX (hBits c A e) xs' = mkX (hBits c A e) xs := by
    funext t; unfold mkX
    cases hb : (hBits c A e).testBit t
    · rfl
    · simp [(h t hb).2]
  unfold hOf
  rw [h1, h2]

theorem RInv.advance {A : List Nat} (hA : A = ancs l.toArray) (hnd : nodupD l = true) {listed : Array Bool} {a : Act} {w w' : World} {φ φ' : Nat → Nat} {xs xs' : Xs} {J J' : IM} {E : Ev} {cur cur' : Nat} {F F' : List OB}
    (v : RInv c R rp F0 RF w0 I0 m I N ev l A listed a w φ xs J E cur F) {i : Nat} {o : Oper} (ho : l[i]? = some o) (hun : ¬ LT listed i) (hcl : Closed l.toArray (listed.setIfInBounds i true))
    (hφ : ∀ t, t ≠ i → φ' t = φ t ∧ xs' t = xs t) (hJ : J.Le J') {y : Value} (hy : ∀ d, o.dst = some d → y = vOf c A i φ' xs')
    (hcur : cur' ≤ c.S.length) (hcon : ∀ b, b < c.S.length → (LT (listed.setIfInBounds i true) (c.S.getD b 0) ↔ b < cur'))
    (hst : St w0 I0 m J' w' ((hOf c A cur' φ' xs' ++ fNew c A φ' xs' cur' (listed.setIfInBounds i true) l.length) ++ F')) (hrow : (LT (listed.setIfInBounds i true) rp → RF (xs' rp) F') ∧ (¬ LT (listed.setIfInBounds i true) rp → F' = F0))
    (hfact : isCallK (kdOf c A i φ' xs') = true → (R i).p (xs' i) J') :
    RInv c R rp F0 RF w0 I0 m I N ev l A (listed.setIfInBounds i true) (a.put o.dst y) w' φ' xs' J' (putE o.dst y E) cur' F' := by
  have hi : i < l.length := (List.getElem?_eq_some_iff.1 ho).1
  have old : ∀ j, j ≠ i → (listed.setIfInBounds i true).getD j false = listed.getD j false := fun j hj => getD_set_ne false (Ne.symm hj)
  have self : (listed.setIfInBounds i true).getD i false = true := by simp [v.size, hi]
  have same : ∀ j o', l[j]? = some o' → LT listed j → kdOf c A j φ' xs' = kdOf c A j φ xs ∧ vOf c A j φ' xs' = vOf c A j φ xs := fun j o' hj hlj =>
    kd_same c fun t ht => hφ t fun e => hun (e ▸ bits_listed hA v.closed hj hlj ht)
  have look : ∀ t, o.dst ≠ some t → lookE (putE o.dst y E) t = lookE E t := fun t ht => by
    cases hd : o.dst with
    | none => rfl
    | some d => rw [hd] at ht; simp only [putE, lookE_cons]; rw [if_neg (by simpa using ht)]
  refine ⟨hcl, by simpa using v.size, by rw [v.act, ActOf_put], v.le.trans hJ, fun j o' d hj hd hlj => ?_, fun j o' d hj hd hlj => ?_, fun t ht => ?_, hcur, hcon, hst, hrow, fun j hj hlj hc => ?_⟩
  · by_cases hji : j = i
    · subst hji
      obtain rfl : o = o' := Option.some.inj (ho.symm.trans hj)
      rw [hd]; simp only [putE, lookE_cons, if_true]
      exact hy d hd
    · rw [LT, old j hji] at hlj
      rw [look d fun e => hji (nodupD_spec hnd j i o' o d hj ho hd e), v.on j o' d hj hd hlj]
      exact (same j o' hj hlj).2.symm
  · have hji : j ≠ i := fun e => hlj (e ▸ self)
    rw [LT, old j hji] at hlj
    rw [look d fun e => hji (nodupD_spec hnd j i o' o d hj ho hd e)]
    exact v.off j o' d hj hd hlj
  · rw [look t (ht i o ho)]; exact v.rest t ht
  · by_cases hji : j = i
    · subst hji; exact hfact hc
    · rw [LT, old j hji] at hlj
      obtain ⟨o', hj'⟩ : ∃ o', l[j]? = some o' := ⟨_, List.getElem?_eq_getElem hj⟩
      rw [(same j o' hj' hlj).1] at hc
      rw [(hφ j hji).2]
      exact (R j).mono hJ (v.facts j hj hlj hc)

theorem mkX_in {b i : Nat} {x : UX} {xs : Xs} (h : b.testBit i = true) : mkX b (updX xs i x) = updX (mkX b xs) i x := by
  funext j
  unfold mkX updX
  by_cases hj : j = i
  · subst hj; rw [h]; simp
  · have : Nat.beq j i = false := by rw [Bool.eq_false_iff]; simpa [Nat.beq_eq] using hj
    rw [this]; rfl
theorem bits_self (A : List Nat) (i : Nat) : (bitsOf A i).testBit i = true := by
  unfold bitsOf; rw [Nat.testBit_or, Nat.testBit_two_pow]; simp
theorem tuple_undef {v : Value} {k : Kd} (h : skipOk v k = true) (hk : (∃ e hs ks, k = .store e hs ks) ∨ k = .skip) : v = undef := by
  have h' : skipOk v .skip = true := by
    rcases hk with ⟨e, hs, ks, rfl⟩ | rfl
    · exact h
    · exact h
  cases v <;> simp [skipOk] at h'
  rename_i vs
  subst h'; rfl

/-- THE RULE. -/
theorem draw_any {w : World} {H : List OB} (cs sb rn : List Nat) (re : Nat) (HR : (Nat → Nat) → Xs → List OB) (rm : (Nat → Nat) → Xs → Sem Value) (KL : (Nat → Nat) → Xs → List (List (Option Obj))) (D : (Nat → Nat) → Xs → Ev) (Hf : (Nat → Nat) → Xs → List OB) (s : St w0 I0 m I w (H ++ F0)) (hC : RoC I C) (hm : P.follows .mixedOrders = true)
    (hB : regionB l c = true) (hH : ∀ φ xs, hOf c (ancs l.toArray) 0 φ xs = H)
    (hk : ∀ φ xs, kindsB c (ancs l.toArray) cs sb rn φ xs l.length = true) (hp : Plain c (ancs l.toArray) l.length)
    (hr0 : ∀ φ xs g, resAll P C N ev l (fun i => (c.K φ xs).getD i .skip) (fun i => (c.V φ xs).getD i undef) (fun e => (c.HL φ xs).getD e []) (fun e i => ((c.NL φ xs).getD e []).getD i default) (ancs l.toArray) φ g 0 l = expAll (fun i => (c.K φ xs).getD i .skip) (fun i => (c.V φ xs).getD i undef) (fun e => (c.HL φ xs).getD e []) (fun e i => ((c.NL φ xs).getD e []).getD i default) (ancs l.toArray) l.length φ 0 l)
    (hkeepA : ∀ φ xs, keepsL (fun i => (c.K φ xs).getD i .skip) (fun e i => ((c.NL φ xs).getD e []).getD i default) (ancs l.toArray) c.S l.length 0 = KL φ xs) (hkeepB : ∀ φ xs, keepsL (fun i => (c.K φ xs).getD i .skip) (fun e i => ((c.NL φ xs).getD e []).getD i default) (ancs l.toArray) c.S l.length 1 = KL φ xs)
    (hreads0 : ∀ φ xs, readsL (fun i => (c.K φ xs).getD i .skip) (fun e => (c.HL φ xs).getD e []) (ancs l.toArray) c.S l.length false = readsL (fun i => (c.K φ xs).getD i .skip) (fun e => (c.HL φ xs).getD e []) (ancs l.toArray) c.S l.length true)
    (hD : ∀ φ xs, dOf l (c.V φ xs) = D φ xs) (hHf : ∀ φ xs, (c.HL φ xs).getD c.S.length [] ++ newsAll (fun i => (c.K φ xs).getD i .skip) (fun e i => ((c.NL φ xs).getD e []).getD i default) φ c.S.length l.length = Hf φ xs)
    (hsb : SubObs c sb) (hrn : RanObs P I c rn) (hrB : rowB c (ancs l.toArray) rp re l.length = true)
    (hHR : rp < l.length → ∀ φ xs, (c.HL φ xs).getD re [] ++ newsAnc (fun i => (c.K φ xs).getD i .skip) (fun e i => ((c.NL φ xs).getD e []).getD i default) (ancs l.toArray) φ re rp l.length = HR φ xs) (hrm : rp < l.length → ∀ φ xs, (c.K φ xs).getD rp .skip = .row re (rm φ xs))
    (hrow : rp < l.length → ∀ φ xs J w H2, I.Le J → impF R xs J (cs.filter fun j => ((ancs l.toArray).getD rp 0).testBit j) (St w0 I0 m J w ((HR φ xs ++ H2) ++ F0) → ∃ x J' w' F', (rm φ xs).run P w = .ok ((c.V φ (updX xs rp x)).getD rp undef) w' ∧ J.Le J' ∧ St w0 I0 m J' w' ((HR φ xs ++ H2) ++ F') ∧ RF x F'))
    (hcalls : CallObs P I c (ancs l.toArray) R cs cs)
    (k0 : ∀ φ xs J w' F, I.Le J → St w0 I0 m J w' (Hf φ xs ++ F) → (rp < l.length → RF (xs rp) F) → (¬ rp < l.length → F = F0) → impF R xs J cs (Q .normal (ActOf N (D φ xs ++ ev)) w')) :
    wpAny P .any l.toArray Q l.toArray.size (Array.replicate l.toArray.size false) (ActOf N ev) { w with drawn := w.drawn + 1 } := by
  have hkeep0 : ∀ φ xs, keepsL (fun i => (c.K φ xs).getD i .skip) (fun e i => ((c.NL φ xs).getD e []).getD i default) (ancs l.toArray) c.S l.length 0 = keepsL (fun i => (c.K φ xs).getD i .skip) (fun e i => ((c.NL φ xs).getD e []).getD i default) (ancs l.toArray) c.S l.length 1 := fun φ xs => (hkeepA φ xs).trans (hkeepB φ xs).symm
  have k : ∀ φ xs J w' F, I.Le J → St w0 I0 m J w' (((c.HL φ xs).getD c.S.length [] ++ newsAll (fun i => (c.K φ xs).getD i .skip) (fun e i => ((c.NL φ xs).getD e []).getD i default) φ c.S.length l.length) ++ F) → (rp < l.length → RF (xs rp) F) → (¬ rp < l.length → F = F0) → impF R xs J cs (Q .normal (ActOf N (dOf l (c.V φ xs) ++ ev)) w') := fun φ xs J w' F h1 h2 h3 h4 => by
    rw [hD]; rw [hHf] at h2; exact k0 φ xs J w' F h1 h2 h3 h4
  clear k0 hD hHf
  have hr : ∀ φ xs g, resAll P C N ev l (fun i => kdOf c (ancs l.toArray) i φ xs) (fun i => vOf c (ancs l.toArray) i φ xs) (fun e => hOf c (ancs l.toArray) e φ xs) (fun e i => nOf c (ancs l.toArray) e i φ xs) (ancs l.toArray) φ g 0 l = expAll (fun i => kdOf c (ancs l.toArray) i φ xs) (fun i => vOf c (ancs l.toArray) i φ xs) (fun e => hOf c (ancs l.toArray) e φ xs) (fun e i => nOf c (ancs l.toArray) e i φ xs) (ancs l.toArray) l.length φ 0 l := fun φ xs g => by
    rw [hp.kd φ xs, hp.vv φ xs, hp.hh φ xs, hp.nn φ xs]; exact hr0 φ xs g
  have hkeep : ∀ φ xs b j, b < c.S.length → j < l.length → (((ancs l.toArray)).getD (c.S.getD b 0) 0).testBit j = false → kdOf c (ancs l.toArray) j φ xs = .new → nOf c (ancs l.toArray) b j φ xs = nOf c (ancs l.toArray) (b + 1) j φ xs := fun φ xs b j hb hj hbit hkj => by
    have h1 := hkeep0 φ xs
    rw [← hp.kd φ xs, ← hp.nn φ xs] at h1
    unfold keepsL at h1
    have h2 := congrArg (fun L => (L[b]?.getD [])[j]?) h1
    simp only [List.getElem?_map, List.getElem?_range hb, Option.map_some, Option.getD_some, List.getElem?_range hj, hbit, hkj, cond_false, Nat.add_zero, Option.some.injEq] at h2
    exact h2
  clear hkeep0
  have hreads : ∀ φ xs i e hs, i < l.length → (∃ ks, kdOf c (ancs l.toArray) i φ xs = .look e hs ks ∨ ∃ raw, kdOf c (ancs l.toArray) i φ xs = .sub e hs ks raw) → ∀ e', e' ≤ c.S.length → exclB (ancs l.toArray) c.S e' i = false → ∀ q ∈ ownIdx hs, (hOf c (ancs l.toArray) e' φ xs)[q]? = (hOf c (ancs l.toArray) e φ xs)[q]? := fun φ xs i e hs hi hk' e' he' hex q hq => by
    have h1 := hreads0 φ xs
    rw [← hp.kd φ xs, ← hp.hh φ xs] at h1
    unfold readsL at h1
    have h2 := congrArg (fun L => ((L[i]?.getD [])[e']?.getD [])) h1
    obtain ⟨ks, hk' | ⟨raw, hk'⟩⟩ := hk' <;>
      (simp only [List.getElem?_map, List.getElem?_range hi, Option.map_some, Option.getD_some, hk', List.getElem?_range (show e' < c.S.length + 1 by omega), hex, cond_false, cond_true, List.map_inj_left] at h2
       exact h2 q hq)
  clear hreads0
  clear hr0
  generalize hA : ancs l.toArray = A at *
  simp only [rowB, Bool.and_eq_true] at hrB
  obtain ⟨⟨hrow1, hrow2⟩, hrow3⟩ := hrB
  simp only [regionB, Bool.and_eq_true, List.all_eq_true, List.mem_range] at hB
  obtain ⟨⟨hedge, hnd⟩, hst⟩ := hB
  have hback : ∀ (j : Nat) (o : Oper), l[j]? = some o → ∀ e ∈ o.after, Region.binds .any e = true → e.on < j := fun j o ho e he hb => by
    have := hedge j (List.getElem?_eq_some_iff.1 ho).1
    simp only [ho, Array.all_eq_true_iff_forall_mem] at this
    have h1 := this e he
    simpa [hb] using h1
  have hkd : ∀ φ xs i, i < l.length → kindOk c A i (kdOf c A i φ xs) = true ∧ skipOk (vOf c A i φ xs) (kdOf c A i φ xs) = true ∧ (isCallK (kdOf c A i φ xs) = cs.contains i) ∧ tagOf (kdOf c A i φ xs) = c.T.getD i 0 ∧ (isSubK (kdOf c A i φ xs) = true → i ∈ sb) ∧ (isRanK (kdOf c A i φ xs) = true → i ∈ rn) := fun φ xs i hi => by
    have := hk φ xs
    simp only [kindsB, List.all_eq_true, List.mem_range, Bool.and_eq_true, beq_iff_eq, Nat.beq_eq] at this
    refine ⟨(this i hi).1.1.1.1.1, (this i hi).1.1.1.1.2, (this i hi).1.1.1.2, (this i hi).1.1.2, fun hs => ?_, fun hs => ?_⟩
    · have h2 := (this i hi).1.2
      rw [hs] at h2
      simpa using h2
    · have h2 := (this i hi).2
      rw [hs] at h2
      simpa using h2
  have hS : ∀ b, b < c.S.length → c.S.getD b 0 < l.length := fun b hb => by
    have h1 := (hst b hb).1
    rwa [Nat.blt_eq] at h1
  have hSS : ∀ a b, a < b → b < c.S.length → (A.getD (c.S.getD b 0) 0).testBit (c.S.getD a 0) = true := fun a b hab hb => by
    have h1 := (hst b hb).2 a (by simpa using hab)
    rwa [hA] at h1
  let Inv : Array Bool → Act → World → Prop := fun listed a w' => ∃ φ xs J E cur F, RInv c R rp F0 RF w0 I0 m I N ev l A listed a w' φ xs J E cur F
  have unl : ∀ (listed : Array Bool) (i : Nat), listed.size = l.length → i < l.length → listed.getD i false = listed.getD i true := fun listed i hs hi => by
    simp [hs, hi]
  have least : ∀ (listed : Array Bool) (i : Nat), listed.size = l.length → i < l.length → listed.getD i false = false → (∀ j, j < i → listed.getD j false = true) → i ∈ Region.ready .any l.toArray listed := fun listed i hs hi h0 hall => by
    rw [mem_ready]
    refine ⟨by rw [← unl listed i hs hi]; exact h0, l[i], by simp [hi], fun e he hb => hall _ (hback i l[i] (by simp [hi]) e he hb)⟩
  have first : ∀ (listed : Array Bool) (n : Nat), (∃ i, i < n ∧ listed.getD i false = false) → ∃ i, i < n ∧ listed.getD i false = false ∧ ∀ j, j < i → listed.getD j false = true := by
    intro listed n
    induction n with
    | zero => rintro ⟨i, h, _⟩; omega
    | succ n ih =>
      rintro ⟨i, hi, h0⟩
      by_cases hex : ∃ i, i < n ∧ listed.getD i false = false
      · obtain ⟨i, hi, h⟩ := ih hex; exact ⟨i, by omega, h⟩
      · have hin : i = n := by
          rcases Nat.lt_or_ge i n with h | h
          · exact absurd ⟨i, h, h0⟩ hex
          · omega
        subst hin
        refine ⟨i, hi, h0, fun j hj => ?_⟩
        cases hl : listed.getD j false
        · exact absurd ⟨j, hj, hl⟩ hex
        · rfl
  have hend : ∀ listed a w', Inv listed a w' → Region.ready .any l.toArray listed = [] → Q .normal a w' := by
    rintro listed a w' ⟨φ, xs, J, E, cur, F, v⟩ hr0
    have hall : ∀ i, i < l.length → listed.getD i false = true := fun i hi => by
      cases hl : listed.getD i false
      · obtain ⟨j, hj, h0, hj2⟩ := first listed l.length ⟨i, hi, hl⟩
        have := least listed j v.size hj h0 hj2
        rw [hr0] at this; cases this
      · rfl
    have hcur : cur = c.S.length := by
      rcases Nat.lt_or_ge cur c.S.length with h | h
      · have := (v.cur_on cur h).1 (hall _ (hS cur h)); omega
      · have := v.cur_le; omega
    subst hcur
    have hKget : ∀ i, i < l.length → (c.K φ xs)[i]? = some (kdOf c A i φ xs) := fun i hi => by
      rw [← hp.k φ xs]; simp [hi]
    have hVget : ∀ i, i < l.length → (c.V φ xs)[i]? = some (vOf c A i φ xs) := fun i hi => by
      rw [← hp.v φ xs]; simp [hi]
    have hnews : fNew c A φ xs c.S.length listed l.length = newsAll (fun i => (c.K φ xs).getD i .skip) (fun e i => ((c.NL φ xs).getD e []).getD i default) φ c.S.length l.length := by
      rw [← hp.kd φ xs, ← hp.nn φ xs]
      refine fm_congr fun i hi => ?_
      simp only [hall i (by simpa using hi), if_true, newOf]
    have hact : a = ActOf N (dOf l (c.V φ xs) ++ ev) := by
      rw [v.act]
      apply ActOf_congr
      intro t _
      have hlenV : (c.V φ xs).length = l.length := by rw [← hp.v φ xs]; simp
      have key : ∀ (L : List Oper) (VL : List Value) , VL.length = L.length → (∀ (q : Nat) (o : Oper) (y : Value), L[q]? = some o → VL[q]? = some y → o.dst = some t → lookE E t = y) → ((∀ (q : Nat) (o : Oper), L[q]? = some o → o.dst ≠ some t) → lookE E t = lookE ev t) → lookE E t = lookE (dOf L VL ++ ev) t := by
        intro L
        induction L with
        | nil => intro VL _ _ h2; cases VL <;> exact h2 (by simp)
        | cons o L ih =>
          intro VL hlen h1 h2
          cases VL with
          | nil => simp at hlen
          | cons y VL =>
            have ih' := ih VL (by simpa using hlen) (fun q o' y' hq hy hd => h1 (q + 1) o' y' (by simpa using hq) (by simpa using hy) hd)
            cases hd : o.dst with
            | none =>
              simp only [dOf, hd]
              exact ih' fun hq => h2 fun q o' ho => by
                cases q with
                | zero => simp at ho; rw [← ho, hd]; simp
                | succ q => exact hq q o' (by simpa using ho)
            | some d =>
              simp only [dOf, hd, List.cons_append]
              rw [lookE_cons]
              by_cases hdt : d = t
              · subst hdt; rw [if_pos rfl]; exact h1 0 o y (by simp) (by simp) hd
              · rw [if_neg hdt]
                exact ih' fun hq => h2 fun q o' ho => by
                  cases q with
                  | zero => simp at ho; rw [← ho, hd]; simpa using hdt
                  | succ q => exact hq q o' (by simpa using ho)
      refine key l _ hlenV (fun q o y hq hy hd => ?_) (v.rest t)
      have hql := (List.getElem?_eq_some_iff.1 hq).1
      rw [hVget q hql] at hy
      rw [v.on q o t hq hd (hall q hql)]
      exact Option.some.inj hy
    have hst' := v.st
    rw [hnews, congrFun (hp.hh φ xs) c.S.length] at hst'
    rw [hact]
    exact impF_spec (k φ xs J w' F v.le hst' (fun h => v.row.1 (hall rp h)) (fun h => v.row.2 (fun hl => by
      have : listed.getD rp false = false := by simp [Array.getElem?_eq_none (by rw [v.size]; omega : listed.size ≤ rp)]
      rw [LT, this] at hl; cases hl))) fun j hj => by
      have hlen : ∀ j ∈ cs, j < l.length → (R j).p (xs j) J := fun j hj hjl => v.facts j hjl (hall j hjl) (by rw [(hkd φ xs j hjl).2.2.1]; simpa using hj)
      rcases Nat.lt_or_ge j l.length with hjl | hjl
      · exact hlen j hj hjl
      · -- a listed call that is no operation: its obligation is false
        exfalso
        have hob := hcalls.get j hj φ xs J v.le
        have hnone : (c.K φ xs).getD j Kd.skip = Kd.skip := by
          have : (c.K φ xs).length = l.length := by rw [← hp.k φ xs]; simp
          rw [List.getD_eq_getElem?_getD, List.getElem?_eq_none (by omega)]; rfl
        rw [hnone] at hob
        have hA0 : A.getD j 0 = 0 := by
          have hlA : ∀ (x : List Oper) (acc : List Nat), (ancFrom acc x).length = acc.length + x.length := by
            intro x
            induction x with
            | nil => intro acc; simp [ancFrom]
            | cons y x ih => intro acc; simp only [ancFrom, ih, List.length_append, List.length_cons, List.length_nil]; omega
          have : A.length = l.length := by rw [← hA]; unfold ancs; rw [hlA]; simp
          rw [List.getD_eq_getElem?_getD, List.getElem?_eq_none (by omega)]; rfl
        rw [hA0] at hob
        have hf : (cs.filter fun j => (0 : Nat).testBit j) = [] := by rw [List.filter_eq_nil_iff]; intro q _; simp
        rw [hf] at hob
        exact hob
  have closed_set : ∀ listed i, Closed l.toArray listed → i ∈ Region.ready .any l.toArray listed → Closed l.toArray (listed.setIfInBounds i true) := fun listed i hc hi j o ho hj e he hb => by
    obtain ⟨_, o', ho', hd⟩ := mem_ready.1 hi
    by_cases hij : i = j
    · subst hij
      obtain rfl : o' = o := by rw [ho'] at ho; simpa using ho
      exact getD_set_true (hd e he hb)
    · rw [getD_set_ne false hij] at hj
      exact getD_set_true (hc j o ho hj e he hb)
  have hstep : ∀ listed a w' i, Inv listed a w' → i ∈ Region.ready .any l.toArray listed → wpOp P l.toArray Q i (Inv (listed.setIfInBounds i true)) a w' := by
    rintro listed a w' i ⟨φ, xs, J, E, cur, F, v⟩ hi
    have hcl := closed_set listed i v.closed hi
    obtain ⟨hun, o, ho, hd⟩ := mem_ready.1 hi
    have ho' : l[i]? = some o := by simpa using ho
    have hlt : i < l.length := (List.getElem?_eq_some_iff.1 ho').1
    have hun' : ¬ LT listed i := by rw [LT, unl listed i v.size hlt, hun]; simp
    have old : ∀ j, j ≠ i → (listed.setIfInBounds i true).getD j false = listed.getD j false := fun j hj => getD_set_ne false (Ne.symm hj)
    have self : (listed.setIfInBounds i true).getD i false = true := by simp [v.size, hlt]
    have hanc : ∀ t, (A.getD i 0).testBit t = true → LT listed t := fun t ht => reach_spec (ops := l.toArray) v.closed t i o ho hd (by rw [hA]; exact ht)
    have hwait : ∀ q, (A.getD q 0).testBit i = true → q < l.length → ¬ LT listed q := fun q hq hql hlq => by
      obtain ⟨o2, ho2⟩ : ∃ o2, l[q]? = some o2 := ⟨_, List.getElem?_eq_getElem hql⟩
      exact hun' (bits_listed hA.symm v.closed ho2 hlq (by unfold bitsOf; rw [Nat.testBit_or, hq]; rfl))
    have same : ∀ φ' xs', (∀ t, t ≠ i → φ' t = φ t ∧ xs' t = xs t) → ∀ (j : Nat) (o' : Oper), l[j]? = some o' → LT listed j → kdOf c A j φ' xs' = kdOf c A j φ xs := fun φ' xs' hφ j o2 hj hlj =>
      (kd_same c fun t ht => hφ t fun e => hun' (e ▸ bits_listed hA.symm v.closed hj hlj ht)).1
    have hsame : ∀ φ' xs', (∀ t, t ≠ i → φ' t = φ t ∧ xs' t = xs t) → hOf c A cur φ' xs' = hOf c A cur φ xs := fun φ' xs' hφ => h_same c fun t ht => by
      cases cur with
      | zero => simp [hBits] at ht
      | succ e =>
        have he : e < c.S.length := by have := v.cur_le; omega
        have hl2 : LT listed (c.S.getD e 0) := (v.cur_on e he).2 (by omega)
        obtain ⟨o2, ho2⟩ : ∃ o2, l[c.S.getD e 0]? = some o2 := ⟨_, List.getElem?_eq_getElem (hS e he)⟩
        exact hφ t fun e2 => hun' (e2 ▸ bits_listed hA.symm v.closed ho2 hl2 ht)
    have hbits : ∀ t, (hBits c A cur).testBit t = true → LT listed t := fun t ht => by
      cases cur with
      | zero => simp [hBits] at ht
      | succ e =>
        have he : e < c.S.length := by have := v.cur_le; omega
        have hl2 : LT listed (c.S.getD e 0) := (v.cur_on e he).2 (by omega)
        obtain ⟨o2, ho2⟩ : ∃ o2, l[c.S.getD e 0]? = some o2 := ⟨_, List.getElem?_eq_getElem (hS e he)⟩
        exact bits_listed hA.symm v.closed ho2 hl2 ht
    have nsame : ∀ φ' xs', (∀ t, t ≠ i → φ' t = φ t ∧ xs' t = xs t) → ∀ (j : Nat) (o' : Oper), l[j]? = some o' → LT listed j → nOf c A cur j φ' xs' = nOf c A cur j φ xs := fun φ' xs' hφ j o2 hj hlj =>
      n_same c fun t ht => hφ t fun e => by
        rw [Nat.testBit_or, Bool.or_eq_true] at ht
        rcases ht with ht | ht
        · exact hun' (e ▸ bits_listed hA.symm v.closed hj hlj ht)
        · exact hun' (e ▸ hbits t ht)
    have fsame : ∀ φ' xs', (∀ t, t ≠ i → φ' t = φ t ∧ xs' t = xs t) → ∀ j, j < l.length → j ≠ i → (if (listed.setIfInBounds i true).getD j false then newOf c A φ' xs' cur j else none) = (if listed.getD j false then newOf c A φ xs cur j else none) := fun φ' xs' hφ j hj hji => by
      rw [old j hji]
      cases hlj : listed.getD j false
      · rfl
      · obtain ⟨o2, ho2⟩ : ∃ o2, l[j]? = some o2 := ⟨_, List.getElem?_eq_getElem hj⟩
        simp only [if_true, newOf, same φ' xs' hφ j o2 ho2 hlj, (hφ j hji).1, nsame φ' xs' hφ j o2 ho2 hlj]
    let g : Nat → Value := fun q => match (l[q]?).bind (·.dst) with
      | some d => lookE E d
      | none => undef
    have hmix : ∀ φ' xs', (∀ t, t ≠ i → φ' t = φ t ∧ xs' t = xs t) → ActOf N (mixE (fun q => vOf c A q φ' xs') A ev g i 0 l) = ActOf N E := fun φ' xs' hφ => ActOf_congr fun t _ => by
      refine mix_look c l 0 (fun q o2 hq hdq => ?_) (v.rest t)
      rw [Nat.zero_add]
      cases h1 : (A.getD i 0).testBit q
      · cases h2 : (A.getD q 0).testBit i
        · simp only [cond_false]
          show lookE E t = g q
          simp only [g, hq, Option.bind_some, hdq]
        · simp only [cond_false, cond_true]
          exact v.off q o2 t hq hdq (hwait q h2 (List.getElem?_eq_some_iff.1 hq).1)
      · simp only [cond_true]
        have hlq := hanc q h1
        have hqi : q ≠ i := fun e => hun' (e ▸ hlq)
        rw [v.on q o2 t hq hdq hlq]
        exact (kd_same c fun t ht => hφ t fun e => hun' (e ▸ bits_listed hA.symm v.closed hq hlq ht)).2.symm
    have hres : ∀ φ' xs', resOf P C N ev l (fun q => kdOf c A q φ' xs') (fun q => vOf c A q φ' xs') (fun e => hOf c A e φ' xs') (fun e i => nOf c A e i φ' xs') A φ' g i o = expOf (fun q => kdOf c A q φ' xs') (fun q => vOf c A q φ' xs') (fun e => hOf c A e φ' xs') (fun e i => nOf c A e i φ' xs') A l.length φ' i := fun φ' xs' => by
      have := resAll_spec (hr φ' xs' g) i o ho'
      simpa using this
    have hself : ∀ t, t ≠ i → φ t = φ t ∧ xs t = xs t := fun t _ => ⟨rfl, rfl⟩
    have hcon0 : (∀ b, b < c.S.length → c.S.getD b 0 ≠ i) → ∀ b, b < c.S.length → (LT (listed.setIfInBounds i true) (c.S.getD b 0) ↔ b < cur) := fun hne b hb => by
      rw [LT, old _ (hne b hb)]; exact v.cur_on b hb
    have notS : c.S.contains i = false → ∀ b, b < c.S.length → c.S.getD b 0 ≠ i := fun hnc b hb he => by
      have : i ∈ c.S := by
        rw [← he, List.getD_eq_getElem?_getD, List.getElem?_eq_getElem hb]; simp
      rw [List.contains_eq_mem] at hnc
      simp [this] at hnc
    have hnrp : ∀ φ' xs', tagOf (kdOf c A i φ' xs') ≠ 7 → i ≠ rp := fun φ' xs' ht e => by
      subst e
      rw [(hkd φ' xs' i hlt).2.2.2.1] at ht
      have hb : Nat.blt i l.length = true := by rw [Nat.blt_eq]; exact hlt
      rw [hb] at hrow2
      simp at hrow2
      exact ht hrow2
    have keepRow : i ≠ rp → ∀ xs' : Xs, xs' rp = xs rp → (LT (listed.setIfInBounds i true) rp → RF (xs' rp) F) ∧ (¬ LT (listed.setIfInBounds i true) rp → F = F0) := fun hne xs' hx => by
      rw [LT, old rp (Ne.symm hne), hx]; exact v.row
    unfold wpOp
    simp only [ho]
    have hw0 := hres φ xs
    unfold resOf at hw0
    have hyield : yielded l.toArray a.tmps = yieldE N l.toArray (mixE (fun q => vOf c A q φ xs) A ev g i 0 l) := by
      rw [v.act, ← hmix φ xs hself, ActOf_yield]
    have heval : ∀ φ' xs', (∀ t, t ≠ i → φ' t = φ t ∧ xs' t = xs t) → evalE N (mixE (fun q => vOf c A q φ' xs') A ev g i 0 l) = a.eval := fun φ' xs' hφ => by
      rw [← ActOf_eval, hmix φ' xs' hφ, v.act]
    have hyield' : ∀ φ' xs', (∀ t, t ≠ i → φ' t = φ t ∧ xs' t = xs t) → yieldE N l.toArray (mixE (fun q => vOf c A q φ' xs') A ev g i 0 l) = yielded l.toArray a.tmps := fun φ' xs' hφ => by
      rw [v.act, ← hmix φ' xs' hφ, ActOf_yield]
    rw [hyield]
    cases hw : Region.wanted o (yieldE N l.toArray (mixE (fun q => vOf c A q φ xs) A ev g i 0 l))
    · rw [if_neg (by simp)]
      rw [hw] at hw0
      simp only at hw0
      have hkskip : kdOf c A i φ xs = .skip := by
        unfold expOf at hw0
        split at hw0 <;> first | assumption | cases hw0
      have hund := tuple_undef (hkd φ xs i hlt).2.1 (.inr hkskip)
      have hnS := (hkd φ xs i hlt).1
      rw [hkskip] at hnS
      simp only [kindOk, Bool.not_eq_true'] at hnS
      refine ⟨φ, xs, J, _, cur, F, v.advance c R rp F0 RF hA.symm hnd ho' hun' hcl hself (IM.Le.refl J) (fun d _ => hund.symm) v.cur_le (hcon0 (notS hnS)) ?_ (keepRow (hnrp φ xs (by rw [hkskip]; decide)) xs rfl) (fun h => by rw [hkskip] at h; cases h)⟩
      have : fNew c A φ xs cur (listed.setIfInBounds i true) l.length = fNew c A φ xs cur listed l.length := fNew_congr c fun j hj => by
        by_cases hji : j = i
        · subst hji
          have : listed.getD j false = false := by rw [LT, Bool.not_eq_true] at hun'; exact hun'
          simp only [self, this, if_true, newOf, hkskip, Bool.false_eq_true, if_false]
        · exact fsame φ xs hself j hj hji
      rw [this]; exact v.st
    · rw [if_pos rfl]
      left
      rw [hw] at hw0
      simp only at hw0
      unfold Oper.wp
      have hun2 : listed.getD i false = false := by rw [LT, Bool.not_eq_true] at hun'; exact hun'
      have hlook : ∀ (e : Nat) (hs : List Hint) (ks : List Nat) (raw : Value), raw = vOf c A i φ xs → (match look P C (bif ownHint hs then hOf c A e φ xs else []) (execOp (evalE N (mixE (fun q => vOf c A q φ xs) A ev g i 0 l)) o) hs with
          | some (a, eqs) => OR.v a [] eqs
          | none => OR.bad) = OR.v (.value raw) [] (dup ks) → c.S.contains i = false → (∃ ks, kdOf c A i φ xs = .look e hs ks ∨ ∃ raw, kdOf c A i φ xs = .sub e hs ks raw) →
          isCallK (kdOf c A i φ xs) = false → newOf c A φ xs cur i = none → o.upon P a (Inv (listed.setIfInBounds i true)) Q ((execOp a.eval o).run P w') := by
        intro e hs ks raw hraw hw0 hnS hkk hnc hnn
        split at hw0
        · rename_i a1 eqs hx
          simp only [OR.v.injEq, true_and] at hw0
          obtain ⟨rfl, rfl⟩ := hw0
          rw [heval φ xs hself] at hx
          have hrun := look_sound (w := w') _ _ _ hx (dup_ok _) (by
            intro h hh e' he'
            cases hown : ownHint hs
            · -- nothing of one's own is read
              have : ∀ hs : List Hint, ownHint hs = false → ∀ h ∈ hs, ∃ q, h = .c q := by
                intro hs
                induction hs with
                | nil => intro _ h hh; simp at hh
                | cons x hs ih =>
                  intro hf h hh
                  cases x with
                  | o q => simp [ownHint] at hf
                  | c q =>
                    rcases List.mem_cons.1 hh with rfl | hh
                    · exact ⟨q, rfl⟩
                    · exact ih hf h hh
              obtain ⟨q, rfl⟩ := this hs hown h hh
              rw [hown] at he'
              exact v.st.sub _ _ ((hC.mono v.le).mem e' (List.mem_of_getElem? he'))
            · rw [hown] at he'
              simp only [cond_true] at he'
              cases h with
              | c q => exact v.st.sub _ _ ((hC.mono v.le).mem e' (List.mem_of_getElem? he'))
              | o q =>
                have hq : q ∈ ownIdx hs := by
                  clear hx hkk hw0 he' hown
                  induction hs with
                  | nil => simp at hh
                  | cons x hs ih =>
                    cases x with
                    | o q' =>
                      rcases List.mem_cons.1 hh with h1 | h1
                      · cases h1; simp [ownIdx]
                      · simp [ownIdx, ih h1]
                    | c q' =>
                      rcases List.mem_cons.1 hh with h1 | h1
                      · cases h1
                      · simpa [ownIdx] using ih h1
                have hex : exclB A c.S cur i = false := by
                  unfold exclB
                  rw [List.any_eq_false]
                  intro a ha
                  have haS : a < c.S.length := by simpa using ha
                  cases hba : Nat.blt a cur
                  · simp only [cond_false]
                    intro hbit
                    have := (v.cur_on a haS).1 (hanc _ hbit)
                    rw [← Nat.blt_eq, hba] at this; cases this
                  · simp only [cond_true]
                    intro hbit
                    have hlt2 : a < cur := by rw [Nat.blt_eq] at hba; exact hba
                    exact hwait _ hbit (hS a haS) ((v.cur_on a haS).2 hlt2)
                have hsm := hreads φ xs i e hs hlt hkk cur v.cur_le hex q hq
                have he2 : (hOf c A cur φ xs)[q]? = some e' := hsm.trans he'
                exact v.st.own e' (by simp [List.mem_of_getElem? he2]))
          rw [hrun]
          simp only [Oper.upon]
          refine ⟨φ, xs, J, _, cur, F, v.advance c R rp F0 RF hA.symm hnd ho' hun' hcl hself (IM.Le.refl J) (fun d _ => hraw) v.cur_le (hcon0 (notS hnS)) ?_ (keepRow (hnrp φ xs (by obtain ⟨ks, hk9 | ⟨raw, hk9⟩⟩ := hkk <;> rw [hk9] <;> simp [tagOf])) xs rfl) (fun h => by rw [hnc] at h; cases h)⟩
          have : fNew c A φ xs cur (listed.setIfInBounds i true) l.length = fNew c A φ xs cur listed l.length := fNew_congr c fun j hj => by
            by_cases hji : j = i
            · subst hji
              simp only [self, hun2, if_true, hnn, Bool.false_eq_true, if_false]
            · exact fsame φ xs hself j hj hji
          rw [this]; exact v.st
        · cases hw0
      cases hkind : kdOf c A i φ xs with
      | skip => rw [hkind] at hw0; simp only [expOf, hkind] at hw0; cases hw0
      | look e hs ks =>
        have hko := (hkd φ xs i hlt).1
        rw [hkind] at hko
        simp only [kindOk, Bool.not_eq_true'] at hko
        simp only [expOf, hkind] at hw0
        exact hlook e hs ks _ rfl hw0 hko ⟨ks, .inl hkind⟩ (by rw [hkind]; rfl) (by simp only [newOf, hkind])
      | sub e hs ks raw =>
        have hko := (hkd φ xs i hlt).1
        rw [hkind] at hko
        simp only [kindOk, Bool.not_eq_true'] at hko
        simp only [expOf, hkind] at hw0
        have hsub := hsb.get i ((hkd φ xs i hlt).2.2.2.2.1 (by rw [hkind]; rfl)) (mkN (bitsOf A i) φ) (mkX (bitsOf A i) xs)
        have hK2 : (c.K (mkN (bitsOf A i) φ) (mkX (bitsOf A i) xs)).getD i Kd.skip = .sub e hs ks raw := hkind
        rw [hK2] at hsub
        exact hlook e hs ks raw hsub hw0 hko ⟨ks, .inr ⟨raw, hkind⟩⟩ (by rw [hkind]; rfl) (by simp only [newOf, hkind])
      | ran m1 =>
        have hko := (hkd φ xs i hlt).1
        rw [hkind] at hko
        simp only [kindOk, Bool.not_eq_true'] at hko
        simp only [expOf, hkind, OR.s.injEq] at hw0
        have hK2 : (c.K (mkN (bitsOf A i) φ) (mkX (bitsOf A i) xs)).getD i Kd.skip = .ran m1 := hkind
        have hob := hrn.get i ((hkd φ xs i hlt).2.2.2.2.2 (by rw [hkind]; rfl)) (mkN (bitsOf A i) φ) (mkX (bitsOf A i) xs) J w' v.le v.st.sub
        rw [hK2] at hob
        simp only at hob
        rw [heval φ xs hself] at hw0
        have hrun : (execOp a.eval o).run P w' = .ok (.value (vOf c A i φ xs)) w' := by
          rw [hw0, show (m1.bind fun v => Sem.pure (Next.value v)) = (m1 >>= fun v => pure (Next.value v)) from rfl, Sem.run_bind, hob]; rfl
        rw [hrun]
        simp only [Oper.upon]
        have hnn : newOf c A φ xs cur i = none := by simp only [newOf, hkind]
        refine ⟨φ, xs, J, _, cur, F, v.advance c R rp F0 RF hA.symm hnd ho' hun' hcl hself (IM.Le.refl J) (fun d _ => rfl) v.cur_le (hcon0 (notS hko)) ?_ (keepRow (hnrp φ xs (by rw [hkind]; simp [tagOf])) xs rfl) (fun h => by rw [hkind] at h; cases h)⟩
        have : fNew c A φ xs cur (listed.setIfInBounds i true) l.length = fNew c A φ xs cur listed l.length := fNew_congr c fun j hj => by
          by_cases hji : j = i
          · subst hji
            simp only [self, hun2, if_true, hnn, Bool.false_eq_true, if_false]
          · exact fsame φ xs hself j hj hji
        rw [this]; exact v.st
      | new =>
        have hφ' : ∀ t, t ≠ i → updN φ i w'.heap.size t = φ t ∧ xs t = xs t := fun t ht => ⟨updN_ne ht, rfl⟩
        have htag : tagOf (kdOf c A i (updN φ i w'.heap.size) xs) = 2 := by
          rw [(hkd _ xs i hlt).2.2.2.1, ← (hkd φ xs i hlt).2.2.2.1, hkind]; rfl
        have hk3 : kdOf c A i (updN φ i w'.heap.size) xs = .new := by
          cases h : kdOf c A i (updN φ i w'.heap.size) xs <;> rw [h] at htag <;> simp [tagOf] at htag
        have hko := (hkd (updN φ i w'.heap.size) xs i hlt).1
        rw [hk3] at hko
        simp only [kindOk, Bool.not_eq_true'] at hko
        have hw1 := hres (updN φ i w'.heap.size) xs
        unfold resOf at hw1
        rw [hyield' _ _ hφ', hyield, hw] at hw1
        simp only [hk3, expOf, heval _ _ hφ', updN_self] at hw1
        have hera : ∀ e, e ≤ cur → nOf c A 0 i (updN φ i w'.heap.size) xs = nOf c A e i (updN φ i w'.heap.size) xs := fun e => by
          induction e with
          | zero => intro _; rfl
          | succ e ih =>
            intro he
            rw [ih (by omega)]
            have heS : e < c.S.length := by have := v.cur_le; omega
            refine hkeep _ _ e i heS hlt ?_ hk3
            cases hbit : (A.getD (c.S.getD e 0) 0).testBit i
            · rfl
            · exact absurd ((v.cur_on e heS).2 (by omega)) (hwait _ hbit (hS e heS))
        split at hw1
        · rename_i a1 H1 eqs hx
          simp only [OR.v.injEq] at hw1
          obtain ⟨rfl, rfl, rfl⟩ := hw1
          obtain ⟨w2, hrun, st2, _⟩ := exec_sound (C := []) (F := (hOf c A cur φ xs ++ fNew c A φ xs cur listed l.length) ++ F) trivial _ [] [] 0 w' _ hx (fun p hp => by simp at hp) (by simpa using v.st) (fun j => by simp)
          rw [hrun]
          simp only [Oper.upon]
          refine ⟨updN φ i w'.heap.size, xs, J, _, cur, F, v.advance c R rp F0 RF hA.symm hnd ho' hun' hcl hφ' (IM.Le.refl J) (fun d _ => rfl) v.cur_le (hcon0 (notS hko)) ?_ (keepRow (hnrp _ xs (by rw [hk3]; decide)) xs rfl) (fun h => by rw [hk3] at h; cases h)⟩
          rw [hsame _ _ hφ']
          have hadd := fNew_add c (A := A) (φ := φ) (φ' := updN φ i w'.heap.size) (xs := xs) (xs' := xs) (e := cur) (b := (w'.heap.size, nOf c A cur i (updN φ i w'.heap.size) xs)) hun2 self (by simp only [newOf, hk3, updN_self]) hlt (fsame _ _ hφ')
          rw [hera cur (Nat.le_refl _)] at st2
          refine st2.perm ?_
          refine List.Perm.trans ?_ (List.Perm.append_right F (List.Perm.append_left _ hadd.symm))
          simp only [List.cons_append, List.nil_append]
          exact List.Perm.trans (List.Perm.of_eq (List.cons_append ..).symm) (List.Perm.append_right F List.perm_middle.symm)
        · cases hw1
      | call f args =>
        have hko := (hkd φ xs i hlt)
        rw [hkind] at hko
        obtain ⟨hko1, _, hko3, _, _⟩ := hko
        simp only [kindOk, Bool.not_eq_true'] at hko1
        simp only [hkind, expOf] at hw0
        split at hw0
        · rename_i a1 eqs hx
          simp only [OR.v.injEq, true_and] at hw0
          obtain ⟨rfl, rfl⟩ := hw0
          rw [heval φ xs hself] at hx
          have hrun := look_sound (w := w') _ _ _ hx (fun p hp => by simp at hp) (Knows.nil _ _ _)
          rw [hrun]
          simp only [Oper.upon]
          have hics : i ∈ cs := by simpa [isCallK] using hko3.symm
          have hob := impF_spec (hcalls.get i hics (mkN (bitsOf A i) φ) (mkX (bitsOf A i) xs) J v.le) (fun j hj => by
            rw [List.mem_filter] at hj
            have hlj := hanc j hj.2
            have hjl : j < l.length := by
              rcases Nat.lt_or_ge j l.length with h | h
              · exact h
              · have : listed.getD j false = false := by simp [Array.getElem?_eq_none (by rw [v.size]; exact h : listed.size ≤ j)]
                rw [LT, this] at hlj; cases hlj
            have hbit : (bitsOf A i).testBit j = true := by unfold bitsOf; rw [Nat.testBit_or, hj.2]; rfl
            have hx : mkX (bitsOf A i) xs j = xs j := by unfold mkX; rw [hbit]; rfl
            rw [hx]
            exact v.facts j hjl hlj (by rw [(hkd φ xs j hjl).2.2.1]; simpa using hj.1))
          have hK2 : (c.K (mkN (bitsOf A i) φ) (mkX (bitsOf A i) xs)).getD i Kd.skip = .call f args := hkind
          rw [hK2] at hob
          simp only at hob
          refine (hob w' v.st.sub).mono ?_
          rintro e w2 ⟨y, J', H', rfl, pst, x, rfl, hRx⟩
          simp only
          have hφ' : ∀ t, t ≠ i → φ t = φ t ∧ updX xs i x t = xs t := fun t ht => ⟨rfl, updX_ne ht⟩
          have htag : tagOf (kdOf c A i φ (updX xs i x)) = 3 := by
            rw [(hkd _ _ i hlt).2.2.2.1, ← (hkd φ xs i hlt).2.2.2.1, hkind]; rfl
          obtain ⟨f3, args3, hk3⟩ : ∃ f3 args3, kdOf c A i φ (updX xs i x) = .call f3 args3 := by
            cases h : kdOf c A i φ (updX xs i x) <;> rw [h] at htag <;> simp [tagOf] at htag
            exact ⟨_, _, rfl⟩
          refine ⟨φ, updX xs i x, J', _, cur, F, v.advance c R rp F0 RF hA.symm hnd ho' hun' hcl hφ' pst.le (fun d _ => ?_) v.cur_le (hcon0 (notS hko1)) ?_ (keepRow (hnrp φ xs (by rw [hkind]; simp [tagOf])) _ (updX_ne (Ne.symm (hnrp φ xs (by rw [hkind]; simp [tagOf]))))) (fun _ => by rw [updX_self]; exact hRx)⟩
          · unfold vOf; rw [mkX_in (bits_self A i)]
          · rw [hsame _ _ hφ']
            have : fNew c A φ (updX xs i x) cur (listed.setIfInBounds i true) l.length = fNew c A φ xs cur listed l.length := fNew_congr c fun j hj => by
              by_cases hji : j = i
              · subst hji
                simp only [self, hun2, if_true, newOf, hk3, Bool.false_eq_true, if_false]
              · exact fsame _ _ hφ' j hj hji
            rw [this]; exact v.st.after pst
        · cases hw0
      | act m1 =>
        have hko := (hkd φ xs i hlt)
        rw [hkind] at hko
        obtain ⟨hko1, _, hko3, _, _⟩ := hko
        simp only [kindOk, Bool.not_eq_true'] at hko1
        simp only [expOf, hkind, OR.s.injEq] at hw0
        rw [heval φ xs hself] at hw0
        · have hics : i ∈ cs := by simpa [isCallK] using hko3.symm
          have hob := impF_spec (hcalls.get i hics (mkN (bitsOf A i) φ) (mkX (bitsOf A i) xs) J v.le) (fun j hj => by
            rw [List.mem_filter] at hj
            have hlj := hanc j hj.2
            have hjl : j < l.length := by
              rcases Nat.lt_or_ge j l.length with h | h
              · exact h
              · have : listed.getD j false = false := by simp [Array.getElem?_eq_none (by rw [v.size]; exact h : listed.size ≤ j)]
                rw [LT, this] at hlj; cases hlj
            have hbit : (bitsOf A i).testBit j = true := by unfold bitsOf; rw [Nat.testBit_or, hj.2]; rfl
            have hx : mkX (bitsOf A i) xs j = xs j := by unfold mkX; rw [hbit]; rfl
            rw [hx]
            exact v.facts j hjl hlj (by rw [(hkd φ xs j hjl).2.2.1]; simpa using hj.1))
          have hK2 : (c.K (mkN (bitsOf A i) φ) (mkX (bitsOf A i) xs)).getD i Kd.skip = .act m1 := hkind
          rw [hK2] at hob
          simp only at hob
          obtain ⟨y, J', w2, H', hrun0, pst, x, rfl, hRx⟩ := hob w' v.st.sub
          have hrun : (execOp a.eval o).run P w' = .ok (.value ((c.V (mkN (bitsOf A i) φ) (updX (mkX (bitsOf A i) xs) i x)).getD i undef)) w2 := by
            rw [hw0, show (m1.bind fun v => Sem.pure (Next.value v)) = (m1 >>= fun v => pure (Next.value v)) from rfl, Sem.run_bind, hrun0]; rfl
          rw [hrun]
          simp only [Oper.upon]
          have hφ' : ∀ t, t ≠ i → φ t = φ t ∧ updX xs i x t = xs t := fun t ht => ⟨rfl, updX_ne ht⟩
          have htag : tagOf (kdOf c A i φ (updX xs i x)) = 8 := by
            rw [(hkd _ _ i hlt).2.2.2.1, ← (hkd φ xs i hlt).2.2.2.1, hkind]; rfl
          obtain ⟨m3, hk3⟩ : ∃ m3, kdOf c A i φ (updX xs i x) = .act m3 := by
            cases h : kdOf c A i φ (updX xs i x) <;> rw [h] at htag <;> simp [tagOf] at htag
            exact ⟨_, rfl⟩
          refine ⟨φ, updX xs i x, J', _, cur, F, v.advance c R rp F0 RF hA.symm hnd ho' hun' hcl hφ' pst.le (fun d _ => ?_) v.cur_le (hcon0 (notS hko1)) ?_ (keepRow (hnrp φ xs (by rw [hkind]; simp [tagOf])) _ (updX_ne (Ne.symm (hnrp φ xs (by rw [hkind]; simp [tagOf]))))) (fun _ => by rw [updX_self]; exact hRx)⟩
          · unfold vOf; rw [mkX_in (bits_self A i)]
          · rw [hsame _ _ hφ']
            have : fNew c A φ (updX xs i x) cur (listed.setIfInBounds i true) l.length = fNew c A φ xs cur listed l.length := fNew_congr c fun j hj => by
              by_cases hji : j = i
              · subst hji
                simp only [self, hun2, if_true, newOf, hk3, Bool.false_eq_true, if_false]
              · exact fsame _ _ hφ' j hj hji
            rw [this]; exact v.st.after pst
      | row e1 m1 =>
        have hT7 : c.T.getD i 0 = 7 := by rw [← (hkd φ xs i hlt).2.2.2.1, hkind]; rfl
        have hirp : i = rp := by
          have := List.all_eq_true.1 hrow1 i (by simpa using hlt)
          rw [hT7] at this
          simpa using this
        subst hirp
        have hblt : Nat.blt i l.length = true := by rw [Nat.blt_eq]; exact hlt
        rw [hblt] at hrow3
        simp only [Bool.not_true, Bool.false_or, Bool.and_eq_true, List.all_eq_true, List.mem_range] at hrow3
        have hreS : re ≤ c.S.length := by have := hrow3.1; rwa [Nat.ble_eq] at this
        have hcurE : cur = re := by
          rcases Nat.lt_trichotomy cur re with h | h | h
          · have h1 := hrow3.2 cur (by omega)
            have hb : Nat.blt cur re = true := by rw [Nat.blt_eq]; exact h
            rw [hb] at h1
            have := (v.cur_on cur (by omega)).1 (hanc _ h1); omega
          · exact h
          · have hreS' : re < c.S.length := by have := v.cur_le; omega
            have h1 := hrow3.2 re hreS'
            have hb : Nat.blt re re = false := by rw [Bool.eq_false_iff]; intro q; rw [Nat.blt_eq] at q; omega
            rw [hb] at h1
            exact absurd ((v.cur_on re hreS').2 h) (hwait _ h1 (hS re hreS'))
        subst hcurE
        have hF : F = F0 := v.row.2 hun'
        subst hF
        have hK9 : kdOf c A i φ xs = .row cur (rm φ xs) := (congrFun (hp.kd φ xs) i).trans (hrm hlt φ xs)
        rw [hkind] at hK9
        obtain ⟨rfl, rfl⟩ : e1 = cur ∧ m1 = rm φ xs := by cases hK9; exact ⟨rfl, rfl⟩
        have hko := (hkd φ xs i hlt).1
        rw [hkind] at hko
        simp only [kindOk, Bool.not_eq_true'] at hko
        simp only [expOf, hkind, OR.s.injEq] at hw0
        rw [heval φ xs hself] at hw0
        have hanc2 : ∀ j, (A.getD i 0).testBit j = true → listed.getD j false = true := fun j hj => hanc j hj
        have hHR9 : HR φ xs = hOf c A e1 φ xs ++ (List.range l.length).filterMap fun j => bif (A.getD i 0).testBit j then newOf c A φ xs e1 j else none := by
          rw [← hHR hlt φ xs, ← congrFun (hp.hh φ xs) e1, ← hp.kd φ xs, ← hp.nn φ xs]
          rfl
        have hparts := fm_parts (f := fun j => newOf c A φ xs e1 j) (p := fun j => listed.getD j false) (q := fun j => (A.getD i 0).testBit j) hanc2 (List.range l.length)
        have hob := impF_spec (hrow hlt φ xs J w' ((List.range l.length).filterMap fun j => if listed.getD j false = true ∧ (A.getD i 0).testBit j = false then newOf c A φ xs e1 j else none) v.le) (fun j hj => by
            rw [List.mem_filter] at hj
            have hlj := hanc j hj.2
            have hjl : j < l.length := by
              rcases Nat.lt_or_ge j l.length with h | h
              · exact h
              · have : listed.getD j false = false := by simp [Array.getElem?_eq_none (by rw [v.size]; exact h : listed.size ≤ j)]
                rw [LT, this] at hlj; cases hlj
            exact v.facts j hjl hlj (by rw [(hkd φ xs j hjl).2.2.1]; simpa using hj.1)) (by
            refine v.st.perm (List.Perm.append_right _ ?_)
            rw [hHR9, List.append_assoc]
            exact List.Perm.append_left _ hparts)
        obtain ⟨x, J', w2, F', hrun9, hJ9, st9, hRF⟩ := hob
        have hrun : (execOp a.eval o).run P w' = .ok (.value ((c.V φ (updX xs i x)).getD i undef)) w2 := by
          rw [hw0, show ((rm φ xs).bind fun v => Sem.pure (Next.value v)) = (rm φ xs >>= fun v => pure (Next.value v)) from rfl, Sem.run_bind, hrun9]; rfl
        rw [hrun]
        simp only [Oper.upon]
        have hφ' : ∀ t, t ≠ i → φ t = φ t ∧ updX xs i x t = xs t := fun t ht => ⟨rfl, updX_ne ht⟩
        have htag : tagOf (kdOf c A i φ (updX xs i x)) = 7 := by
          rw [(hkd _ _ i hlt).2.2.2.1]; exact hT7
        obtain ⟨f3, args3, hk3⟩ : ∃ f3 args3, kdOf c A i φ (updX xs i x) = .row f3 args3 := by
          cases h : kdOf c A i φ (updX xs i x) <;> rw [h] at htag <;> simp [tagOf] at htag
          exact ⟨_, _, rfl⟩
        refine ⟨φ, updX xs i x, J', _, e1, F', v.advance c R i _ RF hA.symm hnd ho' hun' hcl hφ' hJ9 (fun d _ => (congrFun (hp.vv φ (updX xs i x)) i).symm) v.cur_le (hcon0 (notS hko)) ?_ ⟨fun _ => by rw [updX_self]; exact hRF, fun h => absurd self h⟩ (fun h => by rw [hk3] at h; cases h)⟩
        rw [hsame _ _ hφ']
        have : fNew c A φ (updX xs i x) e1 (listed.setIfInBounds i true) l.length = fNew c A φ xs e1 listed l.length := fNew_congr c fun j hj => by
          by_cases hji : j = i
          · subst hji
            simp only [self, hun2, if_true, newOf, hk3, Bool.false_eq_true, if_false]
          · exact fsame _ _ hφ' j hj hji
        rw [this]
        refine st9.perm (List.Perm.append_right _ ?_)
        rw [hHR9, List.append_assoc]
        exact List.Perm.append_left _ hparts.symm
      | store e hs ks =>
        have hφ' : ∀ t, t ≠ i → updN φ i w'.heap.size t = φ t ∧ xs t = xs t := fun t ht => ⟨updN_ne ht, rfl⟩
        have htag : tagOf (kdOf c A i (updN φ i w'.heap.size) xs) = 4 := by
          rw [(hkd _ xs i hlt).2.2.2.1, ← (hkd φ xs i hlt).2.2.2.1, hkind]; rfl
        obtain ⟨e3, hs3, ks3, hk3⟩ : ∃ e3 hs3 ks3, kdOf c A i (updN φ i w'.heap.size) xs = .store e3 hs3 ks3 := by
          cases h : kdOf c A i (updN φ i w'.heap.size) xs <;> rw [h] at htag <;> simp [tagOf] at htag
          exact ⟨_, _, _, rfl⟩
        have hko := (hkd (updN φ i w'.heap.size) xs i hlt).1
        have hund := tuple_undef (hkd (updN φ i w'.heap.size) xs i hlt).2.1 (.inl ⟨_, _, _, hk3⟩)
        rw [hk3] at hko
        simp only [kindOk, Bool.and_eq_true, Nat.blt_eq, Nat.beq_eq] at hko
        obtain ⟨heS, hei⟩ := hko
        have hcur : cur = e3 := by
          rcases Nat.lt_trichotomy cur e3 with h | h | h
          · have h1 := hSS cur e3 h heS
            rw [hei] at h1
            have := (v.cur_on cur (by omega)).1 (hanc _ h1); omega
          · exact h
          · exact absurd ((v.cur_on e3 heS).2 h) (by rw [hei]; exact hun')
        subst hcur
        have hw1 := hres (updN φ i w'.heap.size) xs
        unfold resOf at hw1
        rw [hyield' _ _ hφ', hyield, hw] at hw1
        simp only [hk3, expOf, heval _ _ hφ', updN_self] at hw1
        split at hw1
        · rename_i a1 H1 eqs hx
          simp only [OR.v.injEq] at hw1
          obtain ⟨rfl, rfl, rfl⟩ := hw1
          rw [hsame _ _ hφ'] at hx
          have hanc2 : ∀ j, (A.getD i 0).testBit j = true → listed.getD j false = true := fun j hj => hanc j hj
          have hmem : ∀ j, listed.getD j false = true → j < l.length := fun j hj => by
            rcases Nat.lt_or_ge j l.length with h | h
            · exact h
            · have : listed.getD j false = false := by simp [Array.getElem?_eq_none (by rw [v.size]; exact h : listed.size ≤ j)]
              rw [this] at hj; cases hj
          have hnA : newsAnc (fun q => kdOf c A q (updN φ i w'.heap.size) xs) (fun e i_1 => nOf c A e i_1 (updN φ i w'.heap.size) xs) A (updN φ i w'.heap.size) cur i l.length = (List.range l.length).filterMap fun j => bif (A.getD i 0).testBit j then newOf c A φ xs cur j else none := by
            refine fm_congr fun j hj => ?_
            cases hbj : (A.getD i 0).testBit j
            · rfl
            · have hlj := hanc j hbj
              have hji : j ≠ i := fun e => hun' (e ▸ hlj)
              obtain ⟨o2, ho2⟩ : ∃ o2, l[j]? = some o2 := ⟨_, List.getElem?_eq_getElem (by simpa using hj)⟩
              simp only [cond_true, newOf, same _ _ hφ' j o2 ho2 hlj, nsame _ _ hφ' j o2 ho2 hlj, updN_ne hji]
              cases kdOf c A j φ xs <;> rfl
          have hparts := fm_parts (f := fun j => newOf c A φ xs cur j) (p := fun j => listed.getD j false) (q := fun j => (A.getD i 0).testBit j) hanc2 (List.range l.length)
          rw [hnA] at hx
          obtain ⟨w2, hrun, st2, _⟩ := exec_sound (F := ((List.range l.length).filterMap fun j => if listed.getD j false = true ∧ (A.getD i 0).testBit j = false then newOf c A φ xs cur j else none) ++ F) (hC.mono v.le) _ _ _ 0 w' _ hx (dup_ok _) (by
            refine v.st.perm (List.Perm.trans (List.Perm.append_right F (List.Perm.append_left _ hparts)) (List.Perm.of_eq ?_))
            simp only [List.append_assoc]) (fun j => by simp)
          rw [hrun]
          simp only [Oper.upon]
          refine ⟨updN φ i w'.heap.size, xs, J, _, cur + 1, F, v.advance c R rp F0 RF hA.symm hnd ho' hun' hcl hφ' (IM.Le.refl J) (fun d _ => hund.symm) heS (fun b hb => ?_) ?_ (keepRow (hnrp _ xs (by rw [hk3]; simp [tagOf])) xs rfl) (fun h => by rw [hk3] at h; cases h)⟩
          · by_cases hbe : b = cur
            · subst hbe; rw [LT, hei, self]; simp
            · have hne : c.S.getD b 0 ≠ i := fun he => by
                rcases Nat.lt_or_gt_of_ne hbe with h | h
                · have h1 := hSS b cur h heS
                  rw [hei, he] at h1
                  exact hun' (hanc _ h1)
                · have h1 := hSS cur b h hb
                  rw [hei, he] at h1
                  exact hun' (hanc _ h1)
              rw [LT, old _ hne]
              have := v.cur_on b hb
              rw [LT] at this
              rw [this]; omega
          · rw [← List.append_assoc, List.append_assoc (hOf c A (cur + 1) _ _)] at st2
            refine st2.perm (List.Perm.append_right F (List.Perm.append_left _ ?_))
            have hp2 := fm_parts (f := fun j => newOf c A (updN φ i w'.heap.size) xs (cur + 1) j) (p := fun j => (listed.setIfInBounds i true).getD j false) (q := fun j => (A.getD i 0).testBit j) (fun j hj => getD_set_true (hanc2 j hj)) (List.range l.length)
            refine List.Perm.trans (List.Perm.of_eq ?_) hp2.symm
            congr 1
            refine fm_congr fun j hj => ?_
            by_cases hji : j = i
            · subst hji
              simp only [hun2, Bool.false_eq_true, false_and, if_false, newOf, hk3]
              split <;> rfl
            · rw [old j hji]
              split
              · rename_i hc2
                obtain ⟨o2, ho2⟩ : ∃ o2, l[j]? = some o2 := ⟨_, List.getElem?_eq_getElem (by simpa using hj)⟩
                have hs2 := same _ _ hφ' j o2 ho2 hc2.1
                simp only [newOf]
                rw [hs2]
                cases hkj : kdOf c A j φ xs <;> simp only
                rw [updN_ne hji]
                have hkj2 : kdOf c A j (updN φ i w'.heap.size) xs = .new := hs2.trans hkj
                rw [← hkeep (updN φ i w'.heap.size) xs cur j heS (by simpa using hj) (by rw [hei]; exact hc2.2) hkj2, nsame _ _ hφ' j o2 ho2 hc2.1]
              · rfl
        · cases hw1
  refine wpAny_inv Inv hend hstep _ _ _ _ ?_ ?_
  · unfold cnt; simpa using List.countP_le_length (p := fun i => !(Array.replicate l.toArray.size false).getD i true) (l := List.range l.toArray.size)
  · have hrep : ∀ i, (Array.replicate l.toArray.size false).getD i false = false := fun i => by
      by_cases h : i < l.length <;> simp [h]
    refine ⟨fun _ => 0, fun _ => UX.d, I, ev, 0, F0, ⟨fun j o _ hj => ?_, by simp, rfl, IM.Le.refl I, fun i o d _ _ hl => ?_, fun i o d _ _ _ => rfl, fun t _ => rfl, Nat.zero_le _, fun b hb => ?_, ?_, ⟨fun hl => (by rw [LT, hrep] at hl; cases hl), fun _ => rfl⟩, fun i _ hl => ?_⟩⟩
    · rw [hrep] at hj; cases hj
    · rw [LT, hrep] at hl; cases hl
    · rw [LT, hrep]; simp
    · rw [hH]
      have : fNew c A (fun _ => 0) (fun _ => UX.d) 0 (Array.replicate l.toArray.size false) l.length = [] := by
        unfold fNew
        rw [List.filterMap_eq_nil_iff]
        intro i _
        rw [hrep]; rfl
      rw [this, List.append_nil]
      exact s.drew
    · rw [LT, hrep] at hl; cases hl

/-- THE RULE. -/
theorem draw_gen {id : Nat} {w : World} {H : List OB} (cs sb rn : List Nat) (re : Nat) (HR : (Nat → Nat) → Xs → List OB) (rm : (Nat → Nat) → Xs → Sem Value) (KL : (Nat → Nat) → Xs → List (List (Option Obj))) (D : (Nat → Nat) → Xs → Ev) (Hf : (Nat → Nat) → Xs → List OB) (s : St w0 I0 m I w (H ++ F0)) (hC : RoC I C) (hm : P.follows .mixedOrders = true)
    (hB : regionB l c = true) (hH : ∀ φ xs, hOf c (ancs l.toArray) 0 φ xs = H)
    (hk : ∀ φ xs, kindsB c (ancs l.toArray) cs sb rn φ xs l.length = true) (hp : Plain c (ancs l.toArray) l.length)
    (hr0 : ∀ φ xs g, resAll P C N ev l (fun i => (c.K φ xs).getD i .skip) (fun i => (c.V φ xs).getD i undef) (fun e => (c.HL φ xs).getD e []) (fun e i => ((c.NL φ xs).getD e []).getD i default) (ancs l.toArray) φ g 0 l = expAll (fun i => (c.K φ xs).getD i .skip) (fun i => (c.V φ xs).getD i undef) (fun e => (c.HL φ xs).getD e []) (fun e i => ((c.NL φ xs).getD e []).getD i default) (ancs l.toArray) l.length φ 0 l)
    (hkeepA : ∀ φ xs, keepsL (fun i => (c.K φ xs).getD i .skip) (fun e i => ((c.NL φ xs).getD e []).getD i default) (ancs l.toArray) c.S l.length 0 = KL φ xs) (hkeepB : ∀ φ xs, keepsL (fun i => (c.K φ xs).getD i .skip) (fun e i => ((c.NL φ xs).getD e []).getD i default) (ancs l.toArray) c.S l.length 1 = KL φ xs)
    (hreads0 : ∀ φ xs, readsL (fun i => (c.K φ xs).getD i .skip) (fun e => (c.HL φ xs).getD e []) (ancs l.toArray) c.S l.length false = readsL (fun i => (c.K φ xs).getD i .skip) (fun e => (c.HL φ xs).getD e []) (ancs l.toArray) c.S l.length true)
    (hD : ∀ φ xs, dOf l (c.V φ xs) = D φ xs) (hHf : ∀ φ xs, (c.HL φ xs).getD c.S.length [] ++ newsAll (fun i => (c.K φ xs).getD i .skip) (fun e i => ((c.NL φ xs).getD e []).getD i default) φ c.S.length l.length = Hf φ xs)
    (hsb : SubObs c sb) (hrn : RanObs P I c rn) (hrB : rowB c (ancs l.toArray) rp re l.length = true)
    (hHR : rp < l.length → ∀ φ xs, (c.HL φ xs).getD re [] ++ newsAnc (fun i => (c.K φ xs).getD i .skip) (fun e i => ((c.NL φ xs).getD e []).getD i default) (ancs l.toArray) φ re rp l.length = HR φ xs) (hrm : rp < l.length → ∀ φ xs, (c.K φ xs).getD rp .skip = .row re (rm φ xs))
    (hrow : rp < l.length → ∀ φ xs J w H2, I.Le J → impF R xs J (cs.filter fun j => ((ancs l.toArray).getD rp 0).testBit j) (St w0 I0 m J w ((HR φ xs ++ H2) ++ F0) → ∃ x J' w' F', (rm φ xs).run P w = .ok ((c.V φ (updX xs rp x)).getD rp undef) w' ∧ J.Le J' ∧ St w0 I0 m J' w' ((HR φ xs ++ H2) ++ F') ∧ RF x F'))
    (hcalls : CallObs P I c (ancs l.toArray) R cs cs)
    (k0 : ∀ φ xs J w' F, I.Le J → St w0 I0 m J w' (Hf φ xs ++ F) → (rp < l.length → RF (xs rp) F) → (¬ rp < l.length → F = F0) → impF R xs J cs (Q .normal (ActOf N (D φ xs ++ ev)) w')) :
    (Code.region id l.toArray true).wp P Q (ActOf N ev) w :=
  wp_region_any hm (draw_any c R rp F0 RF cs sb rn re HR rm KL D Hf s hC hm hB hH hk hp hr0 hkeepA hkeepB hreads0 hD hHf hsb hrn hrB hHR hrm hrow hcalls k0)

/-- .. where nothing takes a row. -/
theorem drawK_rule {id : Nat} {w : World} {H : List OB} (cs sb rn : List Nat) (KL : (Nat → Nat) → Xs → List (List (Option Obj))) (D : (Nat → Nat) → Xs → Ev) (Hf : (Nat → Nat) → Xs → List OB) (s : St w0 I0 m I w (H ++ F0)) (hC : RoC I C) (hm : P.follows .mixedOrders = true)
    (hB : regionB l c = true) (hH : ∀ φ xs, hOf c (ancs l.toArray) 0 φ xs = H)
    (hk : ∀ φ xs, kindsB c (ancs l.toArray) cs sb rn φ xs l.length = true) (hp : Plain c (ancs l.toArray) l.length)
    (hr0 : ∀ φ xs g, resAll P C N ev l (fun i => (c.K φ xs).getD i .skip) (fun i => (c.V φ xs).getD i undef) (fun e => (c.HL φ xs).getD e []) (fun e i => ((c.NL φ xs).getD e []).getD i default) (ancs l.toArray) φ g 0 l = expAll (fun i => (c.K φ xs).getD i .skip) (fun i => (c.V φ xs).getD i undef) (fun e => (c.HL φ xs).getD e []) (fun e i => ((c.NL φ xs).getD e []).getD i default) (ancs l.toArray) l.length φ 0 l)
    (hkeepA : ∀ φ xs, keepsL (fun i => (c.K φ xs).getD i .skip) (fun e i => ((c.NL φ xs).getD e []).getD i default) (ancs l.toArray) c.S l.length 0 = KL φ xs) (hkeepB : ∀ φ xs, keepsL (fun i => (c.K φ xs).getD i .skip) (fun e i => ((c.NL φ xs).getD e []).getD i default) (ancs l.toArray) c.S l.length 1 = KL φ xs)
    (hreads0 : ∀ φ xs, readsL (fun i => (c.K φ xs).getD i .skip) (fun e => (c.HL φ xs).getD e []) (ancs l.toArray) c.S l.length false = readsL (fun i => (c.K φ xs).getD i .skip) (fun e => (c.HL φ xs).getD e []) (ancs l.toArray) c.S l.length true)
    (hD : ∀ φ xs, dOf l (c.V φ xs) = D φ xs) (hHf : ∀ φ xs, (c.HL φ xs).getD c.S.length [] ++ newsAll (fun i => (c.K φ xs).getD i .skip) (fun e i => ((c.NL φ xs).getD e []).getD i default) φ c.S.length l.length = Hf φ xs)
    (hsb : SubObs c sb) (hrn : RanObs P I c rn) (hrB : rowB c (ancs l.toArray) l.length 0 l.length = true) (hcalls : CallObs P I c (ancs l.toArray) R cs cs)
    (k0 : ∀ φ xs J w', I.Le J → St w0 I0 m J w' (Hf φ xs ++ F0) → impF R xs J cs (Q .normal (ActOf N (D φ xs ++ ev)) w')) :
    (Code.region id l.toArray true).wp P Q (ActOf N ev) w :=
  draw_gen c R l.length F0 (fun _ _ => True) cs sb rn 0 (fun _ _ => []) (fun _ _ => .pure undef) KL D Hf s hC hm hB hH hk hp hr0 hkeepA hkeepB hreads0 hD hHf hsb hrn hrB (fun h => absurd h (Nat.lt_irrefl _)) (fun h => absurd h (Nat.lt_irrefl _)) (fun h => absurd h (Nat.lt_irrefl _)) hcalls
    (fun φ xs J w' F le st _ hF => by rw [hF (Nat.lt_irrefl _)] at st; exact k0 φ xs J w' le st)

theorem draw_rule {id : Nat} {w : World} {H : List OB} (cs sb rn : List Nat) (KL : (Nat → Nat) → Xs → List (List (Option Obj))) (D : (Nat → Nat) → Xs → Ev) (Hf : (Nat → Nat) → Xs → List OB) (s : St w0 I0 m I w H) (hC : RoC I C) (hm : P.follows .mixedOrders = true)
    (hB : regionB l c = true) (hH : ∀ φ xs, hOf c (ancs l.toArray) 0 φ xs = H)
    (hk : ∀ φ xs, kindsB c (ancs l.toArray) cs sb rn φ xs l.length = true) (hp : Plain c (ancs l.toArray) l.length)
    (hr0 : ∀ φ xs g, resAll P C N ev l (fun i => (c.K φ xs).getD i .skip) (fun i => (c.V φ xs).getD i undef) (fun e => (c.HL φ xs).getD e []) (fun e i => ((c.NL φ xs).getD e []).getD i default) (ancs l.toArray) φ g 0 l = expAll (fun i => (c.K φ xs).getD i .skip) (fun i => (c.V φ xs).getD i undef) (fun e => (c.HL φ xs).getD e []) (fun e i => ((c.NL φ xs).getD e []).getD i default) (ancs l.toArray) l.length φ 0 l)
    (hkeepA : ∀ φ xs, keepsL (fun i => (c.K φ xs).getD i .skip) (fun e i => ((c.NL φ xs).getD e []).getD i default) (ancs l.toArray) c.S l.length 0 = KL φ xs) (hkeepB : ∀ φ xs, keepsL (fun i => (c.K φ xs).getD i .skip) (fun e i => ((c.NL φ xs).getD e []).getD i default) (ancs l.toArray) c.S l.length 1 = KL φ xs)
    (hreads0 : ∀ φ xs, readsL (fun i => (c.K φ xs).getD i .skip) (fun e => (c.HL φ xs).getD e []) (ancs l.toArray) c.S l.length false = readsL (fun i => (c.K φ xs).getD i .skip) (fun e => (c.HL φ xs).getD e []) (ancs l.toArray) c.S l.length true)
    (hD : ∀ φ xs, dOf l (c.V φ xs) = D φ xs) (hHf : ∀ φ xs, (c.HL φ xs).getD c.S.length [] ++ newsAll (fun i => (c.K φ xs).getD i .skip) (fun e i => ((c.NL φ xs).getD e []).getD i default) φ c.S.length l.length = Hf φ xs)
    (hsb : SubObs c sb) (hrn : RanObs P I c rn) (hrB : rowB c (ancs l.toArray) l.length 0 l.length = true) (hcalls : CallObs P I c (ancs l.toArray) R cs cs)
    (k0 : ∀ φ xs J w', I.Le J → St w0 I0 m J w' (Hf φ xs) → impF R xs J cs (Q .normal (ActOf N (D φ xs ++ ev)) w')) :
    (Code.region id l.toArray true).wp P Q (ActOf N ev) w :=
  drawK_rule c R [] cs sb rn KL D Hf (by simpa using s) hC hm hB hH hk hp hr0 hkeepA hkeepB hreads0 hD hHf hsb hrn hrB hcalls
    (fun φ xs J w' le st => k0 φ xs J w' le (by simpa using st))
end
end Go.Sep
