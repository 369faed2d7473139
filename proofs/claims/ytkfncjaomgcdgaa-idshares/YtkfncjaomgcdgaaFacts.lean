/-
  A region that draws its order, walked by facts: each operation is shown alone, in every world that has grown from the region's first one,
  from the facts on the operations that it waits for; behind all of them the tail (the stores) goes in the order of the text.
-/
import Derived.Orders
import Derived.Tactics
import Derived.Below
set_option linter.all false
namespace Go.Facts
open Go.RowKit

/-- Nothing that was there has turned. -/
abbrev Ext (w w' : World) : Prop := Below w.heap.size w w'
theorem Ext.refl (w : World) : Ext w w := Below.refl _ w
theorem Ext.trans {a b c : World} (h : Ext a b) (k : Ext b c) : Ext a c := Below.trans h (Below.mono k h.size)
theorem Ext.drew {w w' : World} (h : Ext w w') : Ext w w'.drew := Below.drew h
theorem Ext.alloc {w w' : World} (h : Ext w w') (o : Obj) : Ext w (w'.alloc o) := Below.alloc h h.size o

/-- What stays true of a value while the world grows. -/
structure PP where
  p : Value → World → Prop
  mono : ∀ {v : Value} {w w' : World}, Ext w w' → p v w → p v w'
def PP.any : PP := ⟨fun _ _ => True, fun _ _ => trivial⟩
def PP.eq (x : Value) : PP := ⟨fun v _ => v = x, fun _ h => h⟩
/-- 'for all values', so many times -/
def allV : Nat → (List Value → Prop) → Prop
  | 0, p => p []
  | n + 1, p => ∀ x, allV n fun l => p (x :: l)
theorem allV_spec : ∀ {n : Nat} {p : List Value → Prop}, allV n p → ∀ xs : List Value, xs.length = n → p xs
  | 0, _, h, xs, hl => by cases xs with | nil => exact h | cons x l => simp at hl
  | n + 1, p, h, xs, hl => by
    cases xs with
    | nil => simp at hl
    | cons x l => exact allV_spec (h x) l (by simpa using hl)

def gp (Φ : List PP) (i : Nat) (v : Value) (w : World) : Prop := (Φ.getD i PP.any).p v w
theorem gp_mono {Φ : List PP} {i : Nat} {v : Value} {w w' : World} (h : Ext w w') (g : gp Φ i v w) : gp Φ i v w' := (Φ.getD i PP.any).mono h g

def putAll : List (Option Tmp) → List Value → Act → Act
  | d :: ds, x :: xs, a => putAll ds xs (a.put d x)
  | _, _, a => a

def imps (Φ : List PP) (xs : List Value) (w : World) : List Edge → Prop → Prop
  | [], p => p
  | e :: es, p => if Region.binds .any e = true then gp Φ e.on (xs.getD e.on undef) w → imps Φ xs w es p else imps Φ xs w es p
theorem imps_spec {Φ : List PP} {xs : List Value} {w : World} {p : Prop} : ∀ {es : List Edge}, imps Φ xs w es p →
    (∀ e ∈ es, Region.binds .any e = true → gp Φ e.on (xs.getD e.on undef) w) → p
  | [], h, _ => h
  | e :: es, h, hd => by
    unfold imps at h
    split at h
    · rename_i hb; exact imps_spec (h (hd e (by simp) hb)) fun e' he' => hd e' (by simp [he'])
    · exact imps_spec h fun e' he' => hd e' (by simp [he'])

def factsFrom (Φ : List PP) (w : World) : Nat → List Value → Prop → Prop
  | _, [], p => p
  | i, x :: xs, p => gp Φ i x w → factsFrom Φ w (i + 1) xs p
theorem factsFrom_spec {Φ : List PP} {w : World} {p : Prop} : ∀ {xs : List Value} {i : Nat}, factsFrom Φ w i xs p → (∀ j, j < xs.length → gp Φ (i + j) (xs.getD j undef) w) → p
  | [], _, h, _ => h
  | x :: xs, i, h, hd => factsFrom_spec (h (by simpa using hd 0 (by simp))) fun j hj => by
      have := hd (j + 1) (by simp; omega)
      simpa [Nat.add_assoc, Nat.add_comm 1 j] using this

section
variable {P : Program} {ops : Array Oper} {Q : Exit → Act → World → Prop}

/-- What an operation yields, and the world that it leaves. -/
def valUpon (P : Program) (R : Value → World → Prop) : Result Next → Prop
  | .ok (.value v) w' => R v w'
  | .ok .skip w' => R undef w'
  | .ok (.enter f args) w' => Calls P f args w' fun
      | .returned v, w'' => R v w''
      | _, _ => False
  | .ok (.row row args) w' => Rows P row args w' R
  | _ => False
theorem wp_of_val {o : Oper} {a : Act} {w : World} {R : Value → World → Prop} {next : Act → World → Prop} (h : valUpon P R ((execOp a.eval o).run P w)) (hn : ∀ v w', R v w' → next (a.put o.dst v) w') : o.wp P a w next Q := by
  unfold Oper.wp
  generalize (execOp a.eval o).run P w = r at *
  cases r with
  | ok n w' =>
    cases n <;> simp only [valUpon] at h <;> simp only [Oper.upon]
    case value u => exact hn _ _ h
    case skip => exact hn _ _ h
    case enter f args => exact h.mono fun e w'' he => by cases e <;> first | exact hn _ _ he | exact he.elim
    case row row args => exact Rows.mono h fun v w'' hv => hn _ _ hv
  | halt x w' => simp only [valUpon] at h

/-- A new block. -/
def FreshIn (w w' : World) (v : Value) : Prop := ∃ k, v = .pointer (some ⟨k, 0, none⟩) ∧ w.heap.size ≤ k ∧ k < w'.heap.size
def newB (fr : List Bool) (i : Nat) (w w' : World) (v : Value) : Prop := if fr.getD i false = true then FreshIn w w' v else True
/-- New blocks of two operations are two. -/
def Apart (fr : List Bool) (xs : List Value) : Prop := ∀ i j, i ≠ j → fr.getD i false = true → fr.getD j false = true → ∀ a b, xs.getD i undef = .pointer (some a) → xs.getD j undef = .pointer (some b) → a.block ≠ b.block

def oblFrom (P : Program) (ops : Array Oper) (fr : List Bool) (Φ : List PP) (ds : List (Option Tmp)) (m : Nat) (a0 : Act) (w1 : World) : Nat → List Oper → Prop
  | _, [] => True
  | i, o :: rest => (allV m fun xs => ∀ w, Ext w1 w → imps Φ xs w o.after.toList (∀ R : Value → World → Prop,
      (∀ v w', Ext w w' → gp Φ i v w' → newB fr i w w' v → R v w') →
      if Region.wanted o (yielded ops (putAll ds xs a0).tmps) then valUpon P R ((execOp (putAll ds xs a0).eval o).run P w) else R undef w)) ∧
      oblFrom P ops fr Φ ds m a0 w1 (i + 1) rest

def Obl (P : Program) (ops : Array Oper) (Q : Exit → Act → World → Prop) (fr : List Bool) (Φ : List PP) (ds : List (Option Tmp)) (m : Nat) (a0 : Act) (w1 : World) (i : Nat) (o : Oper) : Prop :=
  ∀ xs : List Value, xs.length = m → ∀ w, Ext w1 w → (∀ e ∈ o.after, Region.binds .any e = true → gp Φ e.on (xs.getD e.on undef) w) →
    wpOp P ops Q i (fun a' w' => ∃ v, a' = (putAll ds xs a0).put o.dst v ∧ Ext w w' ∧ gp Φ i v w' ∧ newB fr i w w' v) (putAll ds xs a0) w

theorem oblFrom_spec {fr : List Bool} {Φ : List PP} {ds : List (Option Tmp)} {m : Nat} {a0 : Act} {w1 : World} : ∀ {l : List Oper} {k : Nat}, oblFrom P ops fr Φ ds m a0 w1 k l →
    (∀ j o, l[j]? = some o → ops[k + j]? = some o) → ∀ j o, l[j]? = some o → Obl P ops Q fr Φ ds m a0 w1 (k + j) o
  | [], _, _, _, j, o, h => by simp at h
  | o' :: l, k, h, hl, 0, o, hj => by
    obtain rfl : o' = o := by simpa using hj
    intro xs hx w hw hd
    have hi := hl 0 o' (by simp)
    have := imps_spec (allV_spec h.1 xs hx w hw) (fun e he hb => hd e (by simpa using he) hb) (fun v w' => Ext w w' ∧ gp Φ k v w' ∧ newB fr k w w' v) (fun v w' hE hv hn => ⟨hE, hv, hn⟩)
    unfold wpOp
    simp only [hi]
    split
    · rename_i hw'; rw [if_pos hw'] at this; exact .inl (wp_of_val this fun v w' hv => ⟨v, rfl, hv⟩)
    · rename_i hw'; rw [if_neg hw'] at this; exact ⟨_, rfl, this⟩
  | o' :: l, k, h, hl, j + 1, o, hj => by
    have := oblFrom_spec h.2 (fun j o hj => by have := hl (j + 1) o (by simpa using hj); simpa [Nat.add_assoc, Nat.add_comm 1 j] using this) j o (by simpa using hj)
    simpa [Nat.add_assoc, Nat.add_comm 1 j] using this

def cnt (n : Nat) (listed : Array Bool) : Nat := (List.range n).countP fun i => !listed.getD i true

theorem countP_one {p q : Nat → Bool} {i : Nat} (hp : p i = true) (hq : q i = false) (he : ∀ j, j ≠ i → q j = p j) : ∀ n, i < n → (List.range n).countP q + 1 = (List.range n).countP p
  | 0, h => by omega
  | n + 1, h => by
    rw [List.range_succ, List.countP_append, List.countP_append]
    by_cases hin : i < n
    · have := countP_one hp hq he n hin
      have h1 := he n (by omega)
      simp [h1]; omega
    · obtain rfl : i = n := by omega
      have : (List.range i).countP q = (List.range i).countP p := by
        apply List.countP_congr
        intro j hj
        have : j < i := by simpa using hj
        rw [he j (by omega)]
      simp [this, hp, hq]

theorem cnt_set {n i : Nat} {listed : Array Bool} (hi : i < n) (hu : listed.getD i true = false) : cnt n (listed.setIfInBounds i true) + 1 = cnt n listed := by
  unfold cnt
  refine countP_one (i := i) (by simpa using hu) ?_ (fun j hj => ?_) n hi
  · have : i < listed.size := by
      rcases Nat.lt_or_ge i listed.size with h | h
      · exact h
      · simp [Array.getElem?_eq_none h] at hu
    simp [this]
  · rw [getD_set_ne true (Ne.symm hj)]

theorem wpAny_inv (I : Array Bool → Act → World → Prop) (hend : ∀ listed a w, I listed a w → Region.ready .any ops listed = [] → Q .normal a w)
    (hstep : ∀ listed a w i, I listed a w → i ∈ Region.ready .any ops listed → wpOp P ops Q i (I (listed.setIfInBounds i true)) a w) :
    ∀ (fuel : Nat) (listed : Array Bool) (a : Act) (w : World), cnt ops.size listed ≤ fuel → I listed a w → wpAny P .any ops Q fuel listed a w
  | 0, listed, a, w, hf, hI => by
    have hr : Region.ready .any ops listed = [] := by
      rw [List.eq_nil_iff_forall_not_mem]
      intro i hi
      obtain ⟨h0, o, ho, _⟩ := mem_ready.1 hi
      have hlt : i < ops.size := (Array.getElem?_eq_some_iff.1 ho).1
      have := cnt_set hlt h0
      omega
    exact ⟨hr, hend _ _ _ hI hr⟩
  | fuel + 1, listed, a, w, hf, hI => by
    refine ⟨hend _ _ _ hI, fun i hi => ?_⟩
    refine wpOp_mono (fun a' w' h => wpAny_inv I hend hstep fuel _ a' w' ?_ h) (hstep _ _ _ i hI hi)
    obtain ⟨h0, o, ho, _⟩ := mem_ready.1 hi
    have hlt : i < ops.size := (Array.getElem?_eq_some_iff.1 ho).1
    have := cnt_set hlt h0
    omega

/-- i stands on a way that leads to j -/
inductive Leads (ops : Array Oper) : Nat → Nat → Prop
  | one {i j : Nat} {o : Oper} {e : Edge} : ops[j]? = some o → e ∈ o.after → Region.binds .any e = true → e.on = i → Leads ops i j
  | more {i j : Nat} {o : Oper} {e : Edge} : ops[j]? = some o → e ∈ o.after → Region.binds .any e = true → Leads ops i e.on → Leads ops i j

/-- who stands ahead of an operation, as bits; 'acc': of the operations ahead of it -/
def maskOf (acc : List Nat) : List Edge → Nat
  | [] => 0
  | e :: es => if Region.binds .any e = true then (2 ^ e.on ||| acc.getD e.on 0) ||| maskOf acc es else maskOf acc es
def ancFrom : List Nat → List Oper → List Nat
  | acc, [] => acc
  | acc, o :: l => ancFrom (acc ++ [maskOf acc o.after.toList]) l
def reachB (A : List Nat) (i j : Nat) : Bool := (A.getD j 0).testBit i

def GoodA (ops : Array Oper) (A : List Nat) : Prop := ∀ i j, reachB A i j = true → Leads ops i j
theorem mask_good {ops : Array Oper} {acc : List Nat} (hg : GoodA ops acc) {j : Nat} {o : Oper} (ho : ops[j]? = some o) : ∀ (es : List Edge), (∀ e ∈ es, e ∈ o.after) → ∀ i, (maskOf acc es).testBit i = true → Leads ops i j
  | [], _, i, h => by simp [maskOf] at h
  | e :: es, hs, i, h => by
    unfold maskOf at h
    split at h
    · rename_i hb
      simp only [Nat.testBit_or, Bool.or_eq_true] at h
      rcases h with (h | h) | h
      · rw [Nat.testBit_two_pow] at h
        exact .one ho (hs e (by simp)) hb (by simpa using h)
      · exact .more ho (hs e (by simp)) hb (hg i e.on h)
      · exact mask_good hg ho es (fun e' he' => hs e' (by simp [he'])) i h
    · exact mask_good hg ho es (fun e' he' => hs e' (by simp [he'])) i h
theorem anc_good {ops : Array Oper} : ∀ (l : List Oper) (acc : List Nat), GoodA ops acc → (∀ k o, l[k]? = some o → ops[acc.length + k]? = some o) → GoodA ops (ancFrom acc l)
  | [], acc, hg, _ => hg
  | o :: l, acc, hg, hl => by
    unfold ancFrom
    refine anc_good l _ (fun i j h => ?_) (fun k o' hk => ?_)
    · unfold reachB at h
      rcases Nat.lt_trichotomy j acc.length with hj | hj | hj
      · refine hg i j ?_
        unfold reachB
        simpa [List.getElem?_append_left hj] using h
      · subst hj
        have : (acc ++ [maskOf acc o.after.toList]).getD acc.length 0 = maskOf acc o.after.toList := by simp
        rw [this] at h
        exact mask_good hg (by simpa using hl 0 o (by simp)) _ (fun e he => by simpa using he) i h
      · have : (acc ++ [maskOf acc o.after.toList]).getD j 0 = 0 := by
          rw [List.getD_eq_getElem?_getD, List.getElem?_eq_none (by simp; omega)]; rfl
        rw [this] at h; simp at h
    · have := hl (k + 1) o' (by simpa using hk)
      simpa [Nat.add_assoc, Nat.add_comm 1 k] using this
def ancs (ops : Array Oper) : List Nat := ancFrom [] ops.toList
theorem ancs_good (ops : Array Oper) : GoodA ops (ancs ops) := anc_good _ _ (fun i j h => by simp [reachB] at h) (fun k o h => by simpa using h)

def Closed (ops : Array Oper) (listed : Array Bool) : Prop :=
  ∀ j o, ops[j]? = some o → listed.getD j false = true → ∀ e ∈ o.after, Region.binds .any e = true → listed.getD e.on false = true

theorem leads_spec {listed : Array Bool} (hc : Closed ops listed) {i j : Nat} (h : Leads ops i j) : ∀ o, ops[j]? = some o →
    (∀ e ∈ o.after, Region.binds .any e = true → listed.getD e.on false = true) → listed.getD i false = true := by
  induction h with
  | one ho he hb hi =>
    intro o' ho' hd
    obtain rfl := Option.some.inj (ho.symm.trans ho')
    rw [← hi]; exact hd _ he hb
  | more ho he hb hl ih =>
    intro o' ho' hd
    obtain rfl := Option.some.inj (ho.symm.trans ho')
    have h1 := hd _ he hb
    cases hl with
    | one ho2 he2 hb2 hi2 => exact ih _ ho2 (hc _ _ ho2 h1)
    | more ho2 he2 hb2 hl2 => exact ih _ ho2 (hc _ _ ho2 h1)
theorem reach_spec {listed : Array Bool} (hc : Closed ops listed) (i j : Nat) (o : Oper) (ho : ops[j]? = some o)
    (hd : ∀ e ∈ o.after, Region.binds .any e = true → listed.getD e.on false = true) (h : reachB (ancs ops) i j = true) : listed.getD i false = true :=
  leads_spec hc (ancs_good ops i j h) o ho hd

def nodupB : List (Option Tmp) → Bool
  | [] => true
  | d :: ds => d.isSome && !ds.contains d && nodupB ds

/-- THE CLOSED CHECK: edges lead back; from m on each operation waits for all ahead of it; the slots of the first m are apart. -/
def factsB (ops : Array Oper) (m : Nat) : Bool :=
  decide (0 < m) && decide (m ≤ ops.size) && nodupB ((ops.toList.take m).map (·.dst)) &&
  (List.range ops.size).all fun j => match ops[j]? with
    | none => false
    | some o => o.after.all (fun e => !Region.binds .any e || decide (e.on < j)) && (decide (j < m) || (List.range j).all fun i => reachB (ancs ops) i j)

theorem put_put (a : Act) (d : Option Tmp) (v u : Value) : (a.put d v).put d u = a.put d u := by
  cases d with
  | none => rfl
  | some d => simp [Act.put]

theorem putAll_put_ne {d : Option Tmp} {v : Value} : ∀ {ds : List (Option Tmp)} {xs : List Value} {a : Act}, ds.contains d = false → d.isSome = true →
    putAll ds xs (a.put d v) = (putAll ds xs a).put d v
  | [], _, _, _, _ => by simp [putAll]
  | d' :: ds, [], _, _, _ => by simp [putAll]
  | d' :: ds, x :: xs, a, h, hs => by
    simp only [List.contains_cons, Bool.or_eq_false_iff, beq_eq_false_iff_ne] at h
    simp only [putAll]
    rw [Act.put_comm a v x (fun e he => by rw [← he]; exact fun h' => h.1 h'.symm)]
    exact putAll_put_ne h.2 hs

theorem putAll_set : ∀ {ds : List (Option Tmp)} {xs : List Value} {a : Act} {i : Nat} {v : Value} {d : Option Tmp}, nodupB ds = true → ds[i]? = some d → i < xs.length →
    (putAll ds xs a).put d v = putAll ds (xs.set i v) a
  | [], _, _, _, _, _, _, h, _ => by simp at h
  | d' :: ds, [], _, _, _, _, _, _, h => by simp at h
  | d' :: ds, x :: xs, a, 0, v, d, hn, hd, _ => by
    obtain rfl : d' = d := by simpa using hd
    simp only [nodupB, Bool.and_eq_true, Bool.not_eq_true'] at hn
    simp only [putAll, List.set_cons_zero]
    rw [← putAll_put_ne hn.1.2 hn.1.1, put_put]
  | d' :: ds, x :: xs, a, i + 1, v, d, hn, hd, hl => by
    simp only [nodupB, Bool.and_eq_true, Bool.not_eq_true'] at hn
    simp only [putAll, List.set_cons_succ]
    exact putAll_set hn.2 (by simpa using hd) (by simpa using hl)

theorem put_self (a : Act) (d : Option Tmp) : a.put d (a.tmps.getD (d.getD 0) undef) = a := by
  cases d with
  | none => rfl
  | some d =>
    simp only [Act.put, Option.getD_some]
    have : a.tmps.setIfInBounds d (a.tmps.getD d undef) = a.tmps := by
      apply Array.ext (by simp)
      intro i h1 h2
      rw [Array.getElem_setIfInBounds (by simpa using h2)]
      split
      · rename_i e; subst e; simp at h2 ⊢; simp [h2]
      · rfl
    rw [this]

theorem putAll_self : ∀ (ds : List (Option Tmp)) (a : Act), putAll ds (ds.map fun d => a.tmps.getD (d.getD 0) undef) a = a
  | [], _ => by simp [putAll]
  | d :: ds, a => by
    simp only [List.map_cons, putAll]
    rw [put_self]
    exact putAll_self ds a

def NewInv (fr : List Bool) (listed : Array Bool) (m : Nat) (xs : List Value) (w' : World) : Prop :=
  (∀ i, i < m → listed.getD i false = true → fr.getD i false = true → ∃ k, xs.getD i undef = .pointer (some ⟨k, 0, none⟩) ∧ k < w'.heap.size) ∧
  (∀ i j, i < m → j < m → i ≠ j → listed.getD i false = true → listed.getD j false = true → fr.getD i false = true → fr.getD j false = true →
    ∀ a b, xs.getD i undef = .pointer (some a) → xs.getD j undef = .pointer (some b) → a.block ≠ b.block)

theorem NewInv.step {fr : List Bool} {listed : Array Bool} {m : Nat} {xs : List Value} {w w' : World} (h : NewInv fr listed m xs w) (hx : xs.length = m) {i : Nat} (him : i < m) {v : Value} (hE : Ext w w') (hn : newB fr i w w' v) :
    NewInv fr (listed.setIfInBounds i true) m (xs.set i v) w' := by
  have e1 : (xs.set i v).getD i undef = v := by simp [hx, him]
  have e2 : ∀ j, i ≠ j → (xs.set i v).getD j undef = xs.getD j undef := fun j hij => by simp [List.getElem?_set_ne hij]
  have new : fr.getD i false = true → FreshIn w w' v := fun hf => by unfold newB at hn; rw [if_pos hf] at hn; exact hn
  have old : ∀ j, j < m → i ≠ j → (listed.setIfInBounds i true).getD j false = true → fr.getD j false = true → ∃ k, xs.getD j undef = .pointer (some ⟨k, 0, none⟩) ∧ k < w.heap.size := fun j hj hij hl hf => by
    rw [getD_set_ne false hij] at hl; exact h.1 j hj hl hf
  refine ⟨fun j hj hl hf => ?_, fun j k hj hk hjk hlj hlk hfj hfk a b ha hb => ?_⟩
  · by_cases hij : i = j
    · subst hij
      obtain ⟨k, hv, _, hlt⟩ := new hf
      exact ⟨k, by rw [e1]; exact hv, hlt⟩
    · obtain ⟨k, hv, hlt⟩ := old j hj hij hl hf
      exact ⟨k, by rw [e2 j hij]; exact hv, Nat.lt_of_lt_of_le hlt hE.size⟩
  · by_cases hij : i = j
    · subst hij
      obtain ⟨q, hv, hge, _⟩ := new hfj
      obtain ⟨q', hv', hlt⟩ := old k hk hjk hlk hfk
      rw [e1, hv] at ha
      rw [e2 k hjk, hv'] at hb
      simp at ha hb
      rw [← ha, ← hb]; simp only; omega
    · by_cases hik : i = k
      · subst hik
        obtain ⟨q, hv, hge, _⟩ := new hfk
        obtain ⟨q', hv', hlt⟩ := old j hj hij hlj hfj
        rw [e1, hv] at hb
        rw [e2 j hij, hv'] at ha
        simp at ha hb
        rw [← ha, ← hb]; simp only; omega
      · rw [e2 j hij] at ha
        rw [e2 k hik] at hb
        rw [getD_set_ne false hij] at hlj
        rw [getD_set_ne false hik] at hlk
        exact h.2 j k hj hk hjk hlj hlk hfj hfk a b ha hb

theorem wp_region_facts {id : Nat} {a0 : Act} {w : World} (hm : P.follows .mixedOrders = true) (m : Nat) (fr : List Bool) (Φ : List PP) (hB : factsB ops m = true)
    (hobl : oblFrom P ops fr Φ ((ops.toList.take m).map (·.dst)) m a0 w 0 (ops.toList.take m))
    (hrest : allV m fun xs => ∀ w', Ext w w' → factsFrom Φ w' 0 xs (Apart fr xs → wpList P ops Q (ops.toList.drop m) (putAll ((ops.toList.take m).map (·.dst)) xs a0) w')) :
    (Code.region id ops true).wp P Q a0 w := by
  simp only [factsB, Bool.and_eq_true, decide_eq_true_eq, List.all_eq_true, List.mem_range] at hB
  obtain ⟨⟨⟨hm0, hmn⟩, hnd⟩, hedge⟩ := hB
  generalize hds : (ops.toList.take m).map (·.dst) = ds at *
  have hback : ∀ j o, ops[j]? = some o → ∀ e ∈ o.after, Region.binds .any e = true → e.on < j := fun j o ho e he hb => by
    have := hedge j (Array.getElem?_eq_some_iff.1 ho).1
    simp only [ho, Bool.and_eq_true, Array.all_eq_true_iff_forall_mem] at this
    have h1 := this.1 e he
    simpa [hb] using h1
  have htail : ∀ j o, ops[j]? = some o → m ≤ j → ∀ i, i < j → reachB (ancs ops) i j = true := fun j o ho hj i hi => by
    have := hedge j (Array.getElem?_eq_some_iff.1 ho).1
    simp only [ho, Bool.and_eq_true, Bool.or_eq_true, decide_eq_true_eq, List.all_eq_true, List.mem_range] at this
    exact this.2.resolve_left (by omega) i hi
  have hobl' : ∀ i o, i < m → ops[i]? = some o → Obl P ops Q fr Φ ds m a0 w i o := fun i o hi ho => by
    have h1 : (ops.toList.take m)[i]? = some o := by rw [List.getElem?_take]; simp [hi, ho]
    have h2 := oblFrom_spec (Q := Q) hobl (fun j o hj => by
      rw [List.getElem?_take] at hj
      split at hj
      · simpa using hj
      · simp at hj) i o h1
    simpa using h2
  have hdst : ∀ i o, i < m → ops[i]? = some o → ds[i]? = some o.dst := fun i o hi ho => by
    rw [← hds, List.getElem?_map, List.getElem?_take]; simp [hi, ho]
  let I : Array Bool → Act → World → Prop := fun listed a w' =>
    Closed ops listed ∧ listed.size = ops.size ∧
    ((∃ xs : List Value, xs.length = m ∧ a = putAll ds xs a0 ∧ Ext w w' ∧ (∀ i, i < m → listed.getD i false = true → gp Φ i (xs.getD i undef) w') ∧ NewInv fr listed m xs w' ∧
        (∀ j, m ≤ j → listed.getD j false = false) ∧ (∃ i, i < m ∧ listed.getD i false = false)) ∨
     (∃ k, m ≤ k ∧ k ≤ ops.size ∧ (∀ i, i < ops.size → (listed.getD i false = true ↔ i < k)) ∧ wpOps P ops Q (List.range' k (ops.size - k)) a w'))
  have unl : ∀ (listed : Array Bool) (i : Nat), listed.size = ops.size → i < ops.size → listed.getD i false = listed.getD i true := fun listed i hs hi => by
    simp [hs, hi]
  have least : ∀ (listed : Array Bool) (i : Nat), listed.size = ops.size → i < ops.size → listed.getD i false = false → (∀ j, j < i → listed.getD j false = true) → i ∈ Region.ready .any ops listed := fun listed i hs hi h0 hall => by
    rw [mem_ready]
    refine ⟨by rw [← unl listed i hs hi]; exact h0, ops[i], by simp [hi], fun e he hb => hall _ (hback i ops[i] (by simp [hi]) e he hb)⟩
  have first : ∀ (listed : Array Bool) (n : Nat), (∃ i, i < n ∧ listed.getD i false = false) → ∃ i, i < n ∧ listed.getD i false = false ∧ ∀ j, j < i → listed.getD j false = true := by
    intro listed n
    induction n with
    | zero => rintro ⟨i, h, _⟩; omega
    | succ n ih =>
      rintro ⟨i, hi, h0⟩
      by_cases hex : ∃ i, i < n ∧ listed.getD i false = false
      · obtain ⟨i, hi, h⟩ := ih hex; exact ⟨i, by omega, h⟩
      · have hin : i = n := by
          rcases Nat.lt_or_ge i n with h | h
          · exact absurd ⟨i, h, h0⟩ hex
          · omega
        subst hin
        refine ⟨i, hi, h0, fun j hj => ?_⟩
        cases hl : listed.getD j false
        · exact absurd ⟨j, hj, hl⟩ hex
        · rfl
  have hend : ∀ listed a w', I listed a w' → Region.ready .any ops listed = [] → Q .normal a w' := by
    rintro listed a w' ⟨_, hs, ⟨xs, _, _, _, _, _, _, hex⟩ | ⟨k, hk1, hk2, hk, h⟩⟩ hr
    · obtain ⟨i, hi, h0, hall⟩ := first listed m hex
      have := least listed i hs (by omega) h0 hall
      rw [hr] at this; cases this
    · rcases Nat.lt_or_ge k ops.size with hlt | hge
      · have := least listed k hs hlt (by
          cases hl : listed.getD k false
          · rfl
          · have := (hk k hlt).1 hl; omega) (fun j hj => (hk j (by omega)).2 hj)
        rw [hr] at this; cases this
      · have : ops.size - k = 0 := by omega
        rw [this] at h
        simpa [wpOps] using h
  have closed_set : ∀ listed i, Closed ops listed → i ∈ Region.ready .any ops listed → Closed ops (listed.setIfInBounds i true) := fun listed i hc hi j o ho hj e he hb => by
    obtain ⟨_, o', ho', hd⟩ := mem_ready.1 hi
    by_cases hij : i = j
    · subst hij
      obtain rfl : o' = o := by rw [ho'] at ho; simpa using ho
      exact getD_set_true (hd e he hb)
    · rw [getD_set_ne false hij] at hj
      exact getD_set_true (hc j o ho hj e he hb)
  have hstep : ∀ listed a w' i, I listed a w' → i ∈ Region.ready .any ops listed → wpOp P ops Q i (I (listed.setIfInBounds i true)) a w' := by
    rintro listed a w' i ⟨hc, hs, hI⟩ hi
    obtain ⟨hun, o, ho, hd⟩ := mem_ready.1 hi
    have hlt : i < ops.size := (Array.getElem?_eq_some_iff.1 ho).1
    have hun' : listed.getD i false = false := by rw [unl listed i hs hlt]; exact hun
    have hself : (listed.setIfInBounds i true).getD i false = true := by simp [hs, hlt]
    rcases hI with ⟨xs, hx, rfl, hE, hf, hnew, hlate, hex⟩ | ⟨k, hk1, hk2, hk, h⟩
    · have him : i < m := by
        rcases Nat.lt_or_ge i m with h | h
        · exact h
        · obtain ⟨i', hi', h0⟩ := hex
          have := reach_spec hc i' i o ho hd (htail i o ho h i' (by omega))
          rw [h0] at this; cases this
      have hedges : ∀ e ∈ o.after, Region.binds .any e = true → gp Φ e.on (xs.getD e.on undef) w' := fun e he hb => by
        have := hback i o ho e he hb
        exact hf e.on (by omega) (hd e he hb)
      refine wpOp_mono ?_ (hobl' i o him ho xs hx w' hE hedges)
      rintro a' w'' ⟨v, rfl, hE', hv, hn⟩
      have hnew' := hnew.step hx him hE' hn
      rw [putAll_set hnd (hdst i o him ho) (by omega)]
      have hf' : ∀ j, j < m → (listed.setIfInBounds i true).getD j false = true → gp Φ j ((xs.set i v).getD j undef) w'' := fun j hj hl => by
        by_cases hij : i = j
        · subst hij
          have : (xs.set i v).getD i undef = v := by simp [hx, hj]
          rw [this]; exact hv
        · rw [getD_set_ne false hij] at hl
          have : (xs.set i v).getD j undef = xs.getD j undef := by simp [List.getElem?_set_ne hij]
          rw [this]; exact gp_mono hE' (hf j hj hl)
      refine ⟨closed_set _ _ hc hi, by simpa using hs, ?_⟩
      by_cases hex' : ∃ j, j < m ∧ (listed.setIfInBounds i true).getD j false = false
      · refine .inl ⟨xs.set i v, by simpa using hx, rfl, hE.trans hE', hf', hnew', fun j hj => ?_, hex'⟩
        rw [getD_set_ne false (by omega)]; exact hlate j hj
      · have hall : ∀ j, j < m → (listed.setIfInBounds i true).getD j false = true := fun j hj => by
          cases hl : (listed.setIfInBounds i true).getD j false
          · exact absurd ⟨j, hj, hl⟩ hex'
          · rfl
        refine .inr ⟨m, Nat.le_refl _, hmn, fun j hj => ⟨fun hl => ?_, fun hl => hall j hl⟩, ?_⟩
        · rcases Nat.lt_or_ge j m with h | h
          · exact h
          · rw [getD_set_ne false (by omega), hlate j h] at hl; cases hl
        · have h1 := factsFrom_spec (allV_spec hrest (xs.set i v) (by simpa using hx) w'' (hE.trans hE')) (fun j hj => by
            have hj' : j < m := by simpa [hx] using hj
            simpa using hf' j hj' (hall j hj')) (fun i' j' hij hfi hfj a b ha hb => by
            have bound : ∀ q c, (xs.set i v).getD q undef = .pointer (some c) → q < m := fun q c hq => by
              rcases Nat.lt_or_ge q m with h | h
              · exact h
              · have e0 : (xs.set i v).getD q undef = undef := by
                  rw [List.getD_eq_getElem?_getD, List.getElem?_eq_none (by simpa [hx] using h)]; rfl
                rw [e0] at hq; cases hq
            exact hnew'.2 i' j' (bound _ _ ha) (bound _ _ hb) hij (hall _ (bound _ _ ha)) (hall _ (bound _ _ hb)) hfi hfj a b ha hb)
          have h2 := wpOps_eq_wpList (P := P) (ops := ops) (Q := Q) (ops.toList.drop m) m (fun j => by simp)
          have h3 : (ops.toList.drop m).length = ops.size - m := by simp
          rw [h3] at h2
          rw [h2]; exact h1
    · have hik : k ≤ i := by
        rcases Nat.lt_or_ge i k with h | h
        · have := (hk i hlt).2 h; rw [hun'] at this; cases this
        · exact h
      have hik : i = k := by
        rcases Nat.lt_or_ge k i with h | h
        · have := reach_spec hc k i o ho hd (htail i o ho (by omega) k h)
          have := (hk k (by omega)).1 this; omega
        · omega
      subst hik
      have hsz : ops.size - i = (ops.size - (i + 1)) + 1 := by omega
      rw [hsz, List.range'_succ, wpOps_cons] at h
      refine wpOp_mono (fun a' w'' h' => ⟨closed_set _ _ hc hi, by simpa using hs, .inr ⟨i + 1, by omega, by omega, fun j hj => ?_, h'⟩⟩) h
      by_cases hij : i = j
      · subst hij; simp only [hself, true_iff]; omega
      · rw [getD_set_ne false hij, hk j hj]; omega
  refine wp_region_any hm (wpAny_inv I hend hstep _ _ _ _ ?_ ?_)
  · unfold cnt; simpa using List.countP_le_length (p := fun i => !(Array.replicate ops.size false).getD i true) (l := List.range ops.size)
  · have hrep : ∀ i, (Array.replicate ops.size false).getD i false = false := fun i => by
      by_cases h : i < ops.size <;> simp [h]
    refine ⟨fun j o _ hj => ?_, by simp, .inl ⟨ds.map fun d => a0.tmps.getD (d.getD 0) undef, ?_, (putAll_self ds a0).symm, (Ext.refl w).drew, fun i _ hl => ?_, ⟨fun i _ hl => ?_, fun i j _ _ _ hl => ?_⟩, fun j _ => hrep j, 0, hm0, hrep 0⟩⟩
    · rw [hrep] at hj; cases hj
    · rw [← hds]; simp; omega
    · rw [hrep] at hl; cases hl
    · rw [hrep] at hl; cases hl
    · rw [hrep] at hl; cases hl

/-- The same for a region whose operations are written out. -/
theorem wp_facts {id : Nat} {l : List Oper} {a0 : Act} {w : World} (m : Nat) (fr : List Bool) (Φ : List PP) (hm : P.follows .mixedOrders = true) (hB : factsB l.toArray m = true)
    (hobl : oblFrom P l.toArray fr Φ ((l.take m).map (·.dst)) m a0 w 0 (l.take m))
    (hrest : allV m fun xs => ∀ w', Ext w w' → factsFrom Φ w' 0 xs (Apart fr xs → wpList P l.toArray Q (l.drop m) (putAll ((l.take m).map (·.dst)) xs a0) w')) :
    (Code.region id l.toArray true).wp P Q a0 w :=
  wp_region_facts (ops := l.toArray) hm m fr Φ hB (by simpa using hobl) (by simpa using hrest)
end
end Go.Facts
