/-
  A region that draws its order: each operation's outcome is certified for whatever stands ahead of it; then every order comes to one end.
-/
import Derived.Test.YtcpmjogeafhpnaaDoorPpS3
set_option linter.all false
namespace Go.Sep
open Go.RowKit
section
variable {P : Program} {ops : Array Oper} {Q : Exit → Act → World → Prop}
def cnt (n : Nat) (listed : Array Bool) : Nat := (List.range n).countP fun i => !listed.getD i true

theorem countP_one {p q : Nat → Bool} {i : Nat} (hp : p i = true) (hq : q i = false) (he : ∀ j, j ≠ i → q j = p j) : ∀ n, i < n → (List.range n).countP q + 1 = (List.range n).countP p
  | 0, h => by omega
  | n + 1, h => by
    rw [List.range_succ, List.countP_append, List.countP_append]
    by_cases hin : i < n
    · have := countP_one hp hq he n hin
      have h1 := he n (by omega)
      simp [h1]; omega
    · obtain rfl : i = n := by omega
      have : (List.range i).countP q = (List.range i).countP p := by
        apply List.countP_congr
        intro j hj
        have : j < i := by simpa using hj
        rw [he j (by omega)]
      simp [this, hp, hq]

theorem cnt_set {n i : Nat} {listed : Array Bool} (hi : i < n) (hu : listed.getD i true = false) : cnt n (listed.setIfInBounds i true) + 1 = cnt n listed := by
  unfold cnt
  refine countP_one (i := i) (by simpa using hu) ?_ (fun j hj => ?_) n hi
  · have : i < listed.size := by
      rcases Nat.lt_or_ge i listed.size with h | h
      · exact h
      · simp [Array.getElem?_eq_none h] at hu
    simp [this]
  · rw [getD_set_ne true (Ne.symm hj)]

theorem wpAny_inv (I : Array Bool → Act → World → Prop) (hend : ∀ listed a w, I listed a w → Region.ready .any ops listed = [] → Q .normal a w)
    (hstep : ∀ listed a w i, I listed a w → i ∈ Region.ready .any ops listed → wpOp P ops Q i (I (listed.setIfInBounds i true)) a w) :
    ∀ (fuel : Nat) (listed : Array Bool) (a : Act) (w : World), cnt ops.size listed ≤ fuel → I listed a w → wpAny P .any ops Q fuel listed a w
  | 0, listed, a, w, hf, hI => by
    have hr : Region.ready .any ops listed = [] := by
      rw [List.eq_nil_iff_forall_not_mem]
      intro i hi
      obtain ⟨h0, o, ho, _⟩ := mem_ready.1 hi
      have hlt : i < ops.size := (Array.getElem?_eq_some_iff.1 ho).1
      have := cnt_set hlt h0
      omega
    exact ⟨hr, hend _ _ _ hI hr⟩
  | fuel + 1, listed, a, w, hf, hI => by
    refine ⟨hend _ _ _ hI, fun i hi => ?_⟩
    refine wpOp_mono (fun a' w' h => wpAny_inv I hend hstep fuel _ a' w' ?_ h) (hstep _ _ _ i hI hi)
    obtain ⟨h0, o, ho, _⟩ := mem_ready.1 hi
    have hlt : i < ops.size := (Array.getElem?_eq_some_iff.1 ho).1
    have := cnt_set hlt h0
    omega

/-- i stands on a way that leads to j -/
inductive Leads (ops : Array Oper) : Nat → Nat → Prop
  | one {i j : Nat} {o : Oper} {e : Edge} : ops[j]? = some o → e ∈ o.after → Region.binds .any e = true → e.on = i → Leads ops i j
  | more {i j : Nat} {o : Oper} {e : Edge} : ops[j]? = some o → e ∈ o.after → Region.binds .any e = true → Leads ops i e.on → Leads ops i j

/-- who stands ahead of an operation, as bits; 'acc': of the operations ahead of it -/
def maskOf (acc : List Nat) : List Edge → Nat
  | [] => 0
  | e :: es => if Region.binds .any e = true then (2 ^ e.on ||| acc.getD e.on 0) ||| maskOf acc es else maskOf acc es
def ancFrom : List Nat → List Oper → List Nat
  | acc, [] => acc
  | acc, o :: l => ancFrom (acc ++ [maskOf acc o.after.toList]) l
def reachB (A : List Nat) (i j : Nat) : Bool := (A.getD j 0).testBit i

def GoodA (ops : Array Oper) (A : List Nat) : Prop := ∀ i j, reachB A i j = true → Leads ops i j
theorem mask_good {ops : Array Oper} {acc : List Nat} (hg : GoodA ops acc) {j : Nat} {o : Oper} (ho : ops[j]? = some o) : ∀ (es : List Edge), (∀ e ∈ es, e ∈ o.after) → ∀ i, (maskOf acc es).testBit i = true → Leads ops i j
  | [], _, i, h => by simp [maskOf] at h
  | e :: es, hs, i, h => by
    unfold maskOf at h
    split at h
    · rename_i hb
      simp only [Nat.testBit_or, Bool.or_eq_true] at h
      rcases h with (h | h) | h
      · rw [Nat.testBit_two_pow] at h
        exact .one ho (hs e (by simp)) hb (by simpa using h)
      · exact .more ho (hs e (by simp)) hb (hg i e.on h)
      · exact mask_good hg ho es (fun e' he' => hs e' (by simp [he'])) i h
    · exact mask_good hg ho es (fun e' he' => hs e' (by simp [he'])) i h
theorem anc_good {ops : Array Oper} : ∀ (l : List Oper) (acc : List Nat), GoodA ops acc → (∀ k o, l[k]? = some o → ops[acc.length + k]? = some o) → GoodA ops (ancFrom acc l)
  | [], acc, hg, _ => hg
  | o :: l, acc, hg, hl => by
    unfold ancFrom
    refine anc_good l _ (fun i j h => ?_) (fun k o' hk => ?_)
    · unfold reachB at h
      rcases Nat.lt_trichotomy j acc.length with hj | hj | hj
      · refine hg i j ?_
        unfold reachB
        simpa [List.getElem?_append_left hj] using h
      · subst hj
        have : (acc ++ [maskOf acc o.after.toList]).getD acc.length 0 = maskOf acc o.after.toList := by simp
        rw [this] at h
        exact mask_good hg (by simpa using hl 0 o (by simp)) _ (fun e he => by simpa using he) i h
      · have : (acc ++ [maskOf acc o.after.toList]).getD j 0 = 0 := by
          rw [List.getD_eq_getElem?_getD, List.getElem?_eq_none (by simp; omega)]; rfl
        rw [this] at h; simp at h
    · have := hl (k + 1) o' (by simpa using hk)
      simpa [Nat.add_assoc, Nat.add_comm 1 k] using this
def ancs (ops : Array Oper) : List Nat := ancFrom [] ops.toList
theorem ancs_good (ops : Array Oper) : GoodA ops (ancs ops) := anc_good _ _ (fun i j h => by simp [reachB] at h) (fun k o h => by simpa using h)

def Closed (ops : Array Oper) (listed : Array Bool) : Prop :=
  ∀ j o, ops[j]? = some o → listed.getD j false = true → ∀ e ∈ o.after, Region.binds .any e = true → listed.getD e.on false = true

theorem leads_spec {listed : Array Bool} (hc : Closed ops listed) {i j : Nat} (h : Leads ops i j) : ∀ o, ops[j]? = some o →
    (∀ e ∈ o.after, Region.binds .any e = true → listed.getD e.on false = true) → listed.getD i false = true := by
  induction h with
  | one ho he hb hi =>
    intro o' ho' hd
    obtain rfl := Option.some.inj (ho.symm.trans ho')
    rw [← hi]; exact hd _ he hb
  | more ho he hb hl ih =>
    intro o' ho' hd
    obtain rfl := Option.some.inj (ho.symm.trans ho')
    have h1 := hd _ he hb
    cases hl with
    | one ho2 he2 hb2 hi2 => exact ih _ ho2 (hc _ _ ho2 h1)
    | more ho2 he2 hb2 hl2 => exact ih _ ho2 (hc _ _ ho2 h1)
theorem reach_spec {listed : Array Bool} (hc : Closed ops listed) (i j : Nat) (o : Oper) (ho : ops[j]? = some o)
    (hd : ∀ e ∈ o.after, Region.binds .any e = true → listed.getD e.on false = true) (h : reachB (ancs ops) i j = true) : listed.getD i false = true :=
  leads_spec hc (ancs_good ops i j h) o ho hd

end

/-- One operation's certificate. era: behind so many stores. -/
inductive Kd where
  | skip
  | look (era : Nat) (hs : List Hint) (ks : List Nat)
  | sub (era : Nat) (hs : List Hint) (ks : List Nat) (raw : Value)
  | ran (m : Sem Value)
  | new
  | call (f : FuncId) (args : Array Value)
  | store (era : Nat) (hs : List Hint) (ks : List Nat)
  | row (era : Nat) (m : Sem Value)
  | act (m : Sem Value)

/-- What a call's outcome is made of. -/
structure UX where
  i : Nat → Int
  n : Nat → Nat
  p : Nat → Option Addr
  v : Nat → Value
  s : Nat → ByteArray
  b : Nat → Bool
  l : Nat → List UInt8
def UX.d : UX := ⟨fun _ => 0, fun _ => 0, fun _ => none, fun _ => undef, fun _ => ByteArray.empty, fun _ => false, fun _ => []⟩
abbrev Xs := Nat → UX
def mkN (b : Nat) (φ : Nat → Nat) : Nat → Nat := fun j => bif b.testBit j then φ j else 0
def mkX (b : Nat) (xs : Xs) : Xs := fun j => bif b.testBit j then xs j else UX.d
def updN (φ : Nat → Nat) (i k : Nat) : Nat → Nat := fun j => bif Nat.beq j i then k else φ j
def updX (xs : Xs) (i : Nat) (x : UX) : Xs := fun j => bif Nat.beq j i then x else xs j
theorem updN_self (φ : Nat → Nat) (i k : Nat) : updN φ i k i = k := by simp [updN]
theorem updX_self (xs : Xs) (i : Nat) (x : UX) : updX xs i x i = x := by simp [updX]
theorem updN_ne {φ : Nat → Nat} {i j k : Nat} (h : j ≠ i) : updN φ i k j = φ j := by
  have : Nat.beq j i = false := by rw [Bool.eq_false_iff]; simpa [Nat.beq_eq] using h
  simp [updN, this]
theorem updX_ne {xs : Xs} {i j : Nat} {x : UX} (h : j ≠ i) : updX xs i x j = xs j := by
  have : Nat.beq j i = false := by rw [Bool.eq_false_iff]; simpa [Nat.beq_eq] using h
  simp [updX, this]

/-- The certificate of a region: kinds, values, own blocks behind so many stores; the stores. -/
structure Cert where
  K : (Nat → Nat) → Xs → List Kd
  V : (Nat → Nat) → Xs → List Value
  HL : (Nat → Nat) → Xs → List (List OB)
  NL : (Nat → Nat) → Xs → List (List Obj)
  S : List Nat
  T : List Nat

def bitsOf (A : List Nat) (i : Nat) : Nat := A.getD i 0 ||| 2 ^ i
section
variable (c : Cert) (A : List Nat)
def kdOf (i : Nat) (φ : Nat → Nat) (xs : Xs) : Kd := (c.K (mkN (bitsOf A i) φ) (mkX (bitsOf A i) xs)).getD i .skip
def vOf (i : Nat) (φ : Nat → Nat) (xs : Xs) : Value := (c.V (mkN (bitsOf A i) φ) (mkX (bitsOf A i) xs)).getD i undef
def hBits (e : Nat) : Nat := match e with | 0 => 0 | e + 1 => bitsOf A (c.S.getD e 0)
def hOf (e : Nat) (φ : Nat → Nat) (xs : Xs) : List OB := (c.HL (mkN (hBits c A e) φ) (mkX (hBits c A e) xs)).getD e []
def nOf (e i : Nat) (φ : Nat → Nat) (xs : Xs) : Obj := ((c.NL (mkN (bitsOf A i ||| hBits c A e) φ) (mkX (bitsOf A i ||| hBits c A e) xs)).getD e []).getD i default
end

/-- The slots that operation i finds: what stands ahead of it has been put; what waits for it has not; of the rest nothing is known. -/
def mixE (v : Nat → Value) (A : List Nat) (ev : Ev) (g : Nat → Value) (i : Nat) : Nat → List Oper → Ev
  | _, [] => ev
  | j, o :: l => match o.dst with
    | none => mixE v A ev g i (j + 1) l
    | some d => (d, bif (A.getD i 0).testBit j then v j else bif (A.getD j 0).testBit i then lookE ev d else g j) :: mixE v A ev g i (j + 1) l

/-- The blocks that operations ahead of i have made, behind e stores. -/
def newsAnc (kd : Nat → Kd) (nl : Nat → Nat → Obj) (A : List Nat) (φ : Nat → Nat) (e i n : Nat) : List OB := (List.range n).filterMap fun j => bif (A.getD i 0).testBit j then (match kd j with | .new => some (φ j, nl e j) | _ => none) else none

inductive OR where
  | v (a : Next) (H : List OB) (eqs : List (Nat × Nat))
  | s (m : Sem Next)
  | skip
  | bad
def resOf (P : Program) (C : List OB) (N : Nat) (ev : Ev) (l : List Oper) (kd : Nat → Kd) (v : Nat → Value) (h : Nat → List OB) (nl : Nat → Nat → Obj) (A : List Nat) (φ : Nat → Nat) (g : Nat → Value) (i : Nat) (o : Oper) : OR :=
  match Region.wanted o (yieldE N l.toArray (mixE v A ev g i 0 l)) with
  | false => .skip
  | true => match kd i with
    | .skip => .bad
    | .look e hs _ => match look P C (bif ownHint hs then h e else []) (execOp (evalE N (mixE v A ev g i 0 l)) o) hs with
      | some (a, eqs) => .v a [] eqs
      | none => .bad
    | .sub e hs _ _ => match look P C (bif ownHint hs then h e else []) (execOp (evalE N (mixE v A ev g i 0 l)) o) hs with
      | some (a, eqs) => .v a [] eqs
      | none => .bad
    | .ran _ => .s (execOp (evalE N (mixE v A ev g i 0 l)) o)
    | .row _ _ => .s (execOp (evalE N (mixE v A ev g i 0 l)) o)
    | .act _ => .s (execOp (evalE N (mixE v A ev g i 0 l)) o)
    | .new => match exec P [] (fun j => φ i + j) (execOp (evalE N (mixE v A ev g i 0 l)) o) [] [] 0 with
      | some ⟨a, H, [], 1, eqs⟩ => .v a H eqs
      | _ => .bad
    | .call _ _ => match look P [] [] (execOp (evalE N (mixE v A ev g i 0 l)) o) [] with
      | some (a, eqs) => .v a [] eqs
      | none => .bad
    | .store e hs _ => match exec P C (fun j => φ i + j) (execOp (evalE N (mixE v A ev g i 0 l)) o) (h e ++ newsAnc kd nl A φ e i l.length) hs 0 with
      | some ⟨a, H, [], 0, eqs⟩ => .v a H eqs
      | _ => .bad
def expOf (kd : Nat → Kd) (v : Nat → Value) (h : Nat → List OB) (nl : Nat → Nat → Obj) (A : List Nat) (n : Nat) (φ : Nat → Nat) (i : Nat) : OR :=
  match kd i with
  | .skip => .skip
  | .look _ _ ks => .v (.value (v i)) [] (dup ks)
  | .sub _ _ ks raw => .v (.value raw) [] (dup ks)
  | .ran m => .s (m.bind fun v => .pure (.value v))
  | .row _ m => .s (m.bind fun v => .pure (.value v))
  | .act m => .s (m.bind fun v => .pure (.value v))
  | .new => .v (.value (v i)) [(φ i, nl 0 i)] []
  | .call f args => .v (.enter f args) [] []
  | .store e _ ks => .v .skip (h (e + 1) ++ newsAnc kd nl A φ (e + 1) i n) (dup ks)

def tagOf : Kd → Nat
  | .skip => 0
  | .look _ _ _ => 1
  | .new => 2
  | .call _ _ => 3
  | .store _ _ _ => 4
  | .sub _ _ _ _ => 5
  | .ran _ => 6
  | .row _ _ => 7
  | .act _ => 8
/-- closed facts on kinds: a store's place among the stores; a reader of own blocks is ordered against each store; what is skipped or stored leaves nothing -/
def kindOk (c : Cert) (A : List Nat) (i : Nat) (k : Kd) : Bool :=
  match k with
  | .store e _ _ => Nat.blt e c.S.length && Nat.beq (c.S.getD e 0) i
  | _ => !c.S.contains i
/-- may operation i not come behind just so many stores? -/
def exclB (A S : List Nat) (e i : Nat) : Bool := (List.range S.length).any fun a => bif Nat.blt a e then (A.getD (S.getD a 0) 0).testBit i else (A.getD i 0).testBit (S.getD a 0)
def ownIdx : List Hint → List Nat
  | [] => []
  | .o q :: l => q :: ownIdx l
  | .c _ :: l => ownIdx l
/-- What is read of one's own is the same behind whatever stores may come ahead. -/
def readsL (kd : Nat → Kd) (h : Nat → List OB) (A S : List Nat) (n : Nat) (here : Bool) : List (List (List (Option OB))) :=
  (List.range n).map fun i => match kd i with
    | .look e hs _ => (List.range (S.length + 1)).map fun e' => bif exclB A S e' i then [] else (ownIdx hs).map fun q => (h (bif here then e else e'))[q]?
    | .sub e hs _ _ => (List.range (S.length + 1)).map fun e' => bif exclB A S e' i then [] else (ownIdx hs).map fun q => (h (bif here then e else e'))[q]?
    | _ => []
def skipOk (v : Value) : Kd → Bool
  | .skip => (match v with | .tuple vs => vs.size == 0 | _ => false)
  | .store _ _ _ => (match v with | .tuple vs => vs.size == 0 | _ => false)
  | _ => true
def nodupD : List Oper → Bool
  | [] => true
  | o :: l => (match o.dst with | none => true | some d => !(l.any fun o' => match o'.dst with | none => false | some d' => Nat.beq d d')) && nodupD l
/-- THE CLOSED CHECK of a region: edges lead back; slots are apart; stores stand one behind the other. -/
def regionB (l : List Oper) (c : Cert) : Bool :=
  ((List.range l.length).all fun j => match l[j]? with
    | none => false
    | some o => o.after.all (fun e => !Region.binds .any e || decide (e.on < j))) && nodupD l &&
  ((List.range c.S.length).all fun b => Nat.blt (c.S.getD b 0) l.length && (List.range b).all fun a => ((ancs l.toArray).getD (c.S.getD b 0) 0).testBit (c.S.getD a 0))
end Go.Sep
