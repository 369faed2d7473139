/- Words that are told again. -/
import Derived.Test.YtgmigcmhnmmdkaaDoorTqT7
set_option linter.all false
set_option maxRecDepth 100000
namespace Go.Proofs.YtgmigcmhnmmdkaaDoor
open Go.RowKit Go.Sep
/-- the program's digit -/
def digP (c : Nat) : Nat := bif decide (48 ≤ c) && decide (c ≤ 57) then c - 48 else bif decide (97 ≤ c) && decide (c ≤ 102) then c - 87 else 255
theorem digP_lt (c : Nat) : digP c < 256 := by
  unfold digP
  cases h : (decide (48 ≤ c) && decide (c ≤ 57)) <;> cases h2 : (decide (97 ≤ c) && decide (c ≤ 102)) <;> simp_all <;> omega
def fstP (l : List UInt8) : Nat := bif !(decide ((l.getD 0 0).toNat = 92)) then (l.getD 0 0).toNat else bif decide (l.length < 3) || decide ((l.getD 1 0).toNat = 92) then 92 else bor 8 (bshl 8 (digP (l.getD 1 0).toNat) 4) (digP (l.getD 2 0).toNat)
theorem fstP_lt (l : List UInt8) : fstP l < 256 := by
  unfold fstP
  cases (!(decide ((l.getD 0 0).toNat = 92)))
  · cases (decide (l.length < 3) || decide ((l.getD 1 0).toNat = 92))
    · exact BitVec.isLt _
    · show 92 < 256; decide
  · exact byte_lt _
def preB (s p : List UInt8) : Bool := decide (p.length ≤ s.length) && decide (s.take p.length = p)
def cutS (s p : List UInt8) : List UInt8 := bif preB s p then s.drop p.length else s
theorem pre_t {s p : List UInt8} (h : p.length ≤ s.length) (h2 : s.take p.length = p) : preB s p = true := by unfold preB; rw [decide_eq_true h, decide_eq_true h2]; rfl
theorem pre_f1 {s p : List UInt8} (h : ¬ p.length ≤ s.length) : preB s p = false := by unfold preB; rw [decide_eq_false h]; rfl
theorem pre_app {p x : List UInt8} : preB (p ++ x) p = true := pre_t (by simp) (by simp)
theorem pre_split {s p : List UInt8} (h : preB s p = true) : s = p ++ cutS s p := by
  unfold cutS; rw [h]
  unfold preB at h
  rw [Bool.and_eq_true] at h
  have h2 := of_decide_eq_true h.2
  simp only [cond_true]
  conv => lhs; rw [← List.take_append_drop p.length s, h2]
theorem byte_of (c : Nat) (h : c < 256) : (UInt8.ofNat c).toNat = c := by simp [Nat.mod_eq_of_lt h]
theorem hex_dig : ∀ c : Fin 256, bor 8 (bshl 8 (digP (hexS.getD (c.val / 16) 0).toNat) 4) (digP (hexS.getD (c.val % 16) 0).toNat) = c.val := by decide +kernel
theorem hex_ne : ∀ c : Fin 256, (hexS.getD (c.val / 16) 0).toNat ≠ 92 := by decide +kernel
theorem fst_quo {c : Nat} (hc : c < 256) (x : List UInt8) : fstP (quo c ++ x) = c := by
  unfold quo
  by_cases h : c = 92
  · subst h; rw [decide_eq_true rfl]; simp [fstP]
  · rw [decide_eq_false h]
    cases e : escB c with
    | true =>
      have h1 := hex_ne ⟨c, hc⟩
      have h2 := hex_dig ⟨c, hc⟩
      simp only [cond_false, cond_true, List.cons_append, List.nil_append]
      have z : ¬ (92 :: hexS.getD (c / 16) 0 :: hexS.getD (c % 16) 0 :: x).length < 3 := by simp
      have h1' : ¬ (hexS.getD (c / 16) 0).toNat = 92 := h1
      show (bif !(decide ((92 : UInt8).toNat = 92)) then _ else bif decide ((92 :: hexS.getD (c / 16) 0 :: hexS.getD (c % 16) 0 :: x).length < 3) || decide ((hexS.getD (c / 16) 0).toNat = 92) then 92 else bor 8 (bshl 8 (digP (hexS.getD (c / 16) 0).toNat) 4) (digP (hexS.getD (c % 16) 0).toNat)) = c
      rw [decide_eq_false z, decide_eq_false h1']
      exact h2
    | false =>
      simp only [cond_false, List.cons_append, List.nil_append]
      show (bif !(decide ((UInt8.ofNat c).toNat = 92)) then (UInt8.ofNat c).toNat else _) = c
      rw [byte_of c hc, decide_eq_false h]; rfl
theorem quo_pre {c d : Nat} (hc : c < 256) (hd : d < 256) {x y : List UInt8} (h : quo c ++ x = quo d ++ y) : c = d ∧ x = y := by
  have e : c = d := by rw [← fst_quo hc x, h, fst_quo hd y]
  subst e
  exact ⟨rfl, List.append_cancel_left h⟩
theorem quo_ne (c : Nat) (x : List UInt8) : quo c ++ x ≠ [] := fun h => by
  have := congrArg List.length h
  rw [List.length_append, List.length_nil] at this
  have := quo_pos c; omega
theorem quoL_cut : ∀ (a b x : List UInt8), quoL a ++ x = quoL b → ∃ b', b = a ++ b' ∧ x = quoL b'
  | [], b, x, h => ⟨b, rfl, h⟩
  | c :: a, [], x, h => by
    rw [quoL_cons, quoL_nil, List.append_assoc] at h
    exact absurd h (quo_ne _ _)
  | c :: a, d :: b, x, h => by
    rw [quoL_cons, quoL_cons, List.append_assoc] at h
    obtain ⟨h1, h2⟩ := quo_pre (byte_lt c) (byte_lt d) h
    obtain ⟨b', e1, e2⟩ := quoL_cut a b x h2
    exact ⟨b', by rw [e1, UInt8.toNat_inj.1 h1]; rfl, e2⟩
theorem quoL_none {b : List UInt8} (h : quoL b = []) : b = [] := by
  cases b with
  | nil => rfl
  | cons c b => rw [quoL_cons] at h; exact absurd h (quo_ne _ _)
theorem quoL_inj {a b : List UInt8} (h : quoL a = quoL b) : a = b := by
  obtain ⟨b', e1, e2⟩ := quoL_cut a b [] (by rw [List.append_nil]; exact h)
  rw [quoL_none e2.symm, List.append_nil] at e1; exact e1.symm
theorem quoL_ge (l : List UInt8) : l.length ≤ (quoL l).length := by
  induction l with
  | nil => exact Nat.le_refl _
  | cons b l ih =>
    rw [quoL_cons, List.length_append, List.length_cons]
    have := quo_pos b.toNat
    omega
theorem quoL_not {b : List UInt8} : quoL b ≠ [92, 45] := fun h => by
  cases b with
  | nil => cases h
  | cons c b =>
    rw [quoL_cons] at h
    have e := fst_quo (byte_lt c) (quoL b)
    rw [h] at e
    have e2 : c.toNat = 92 := e.symm
    rw [e2] at h
    cases h
/-- what a word tells -/
def UQ (s o : List UInt8) (b : Bool) : Prop := (b = true ∧ quoteS o = s) ∨ (b = false ∧ o = [] ∧ ∀ x, quoteS x ≠ s)
theorem quoteS_inj {a b : List UInt8} (h : quoteS a = quoteS b) : a = b := by
  by_cases ha : a = [] <;> by_cases hb : b = []
  · rw [ha, hb]
  · rw [← quoteS_e ha, ← quoteS_n hb] at h; exact absurd h.symm quoL_not
  · rw [← quoteS_n ha, ← quoteS_e hb] at h; exact absurd h quoL_not
  · rw [← quoteS_n ha, ← quoteS_n hb] at h; exact quoL_inj h
theorem uq_uniq {s o o2 : List UInt8} {b b2 : Bool} (h : UQ s o b) (h2 : UQ s o2 b2) : o = o2 ∧ b = b2 := by
  rcases h with ⟨rfl, e⟩ | ⟨rfl, rfl, n⟩ <;> rcases h2 with ⟨rfl, e2⟩ | ⟨rfl, rfl, n2⟩
  · exact ⟨quoteS_inj (e.trans e2.symm), rfl⟩
  · exact absurd e (n2 o)
  · exact absurd e2 (n o2)
  · exact ⟨rfl, rfl⟩
def unqF : Nat → List UInt8 → Option (List UInt8)
  | 0, _ => none
  | n + 1, l => bif decide (l = []) then some [] else bif preB l (quo (fstP l)) then (unqF n (cutS l (quo (fstP l)))).map (UInt8.ofNat (fstP l) :: ·) else none
theorem unqF_some : ∀ (n : Nat) (l o : List UInt8), unqF n l = some o → quoL o = l
  | 0, l, o, h => by cases h
  | n + 1, l, o, h => by
    unfold unqF at h
    by_cases e : l = []
    · rw [decide_eq_true e] at h; cases h; rw [e]; rfl
    · rw [decide_eq_false e] at h
      cases hp : preB l (quo (fstP l)) with
      | false => rw [hp] at h; cases h
      | true =>
        rw [hp] at h
        simp only [cond_false, cond_true, Option.map_eq_some_iff] at h
        obtain ⟨o', h1, rfl⟩ := h
        rw [quoL_cons, unqF_some n _ o' h1, byte_of _ (fstP_lt l), ← pre_split hp]
theorem unqF_quo : ∀ (n : Nat) (o : List UInt8), o.length < n → unqF n (quoL o) = some o
  | 0, o, h => by omega
  | n + 1, [], h => rfl
  | n + 1, c :: o, h => by
    unfold unqF
    have hne : ¬ quoL (c :: o) = [] := by rw [quoL_cons]; exact quo_ne _ _
    have hf : fstP (quoL (c :: o)) = c.toNat := by rw [quoL_cons]; exact fst_quo (byte_lt c) _
    have hp : preB (quoL (c :: o)) (quo c.toNat) = true := by rw [quoL_cons]; exact pre_app
    have hc : cutS (quoL (c :: o)) (quo c.toNat) = quoL o := by
      unfold cutS; rw [hp, quoL_cons]; simp
    rw [decide_eq_false hne, hf, hp, hc, unqF_quo n o (by rw [List.length_cons] at h; omega), ofNat_toNat]
    rfl
def uqO (l : List UInt8) : Option (List UInt8) := bif decide (l = [92, 45]) then some [] else bif decide (l = []) then none else unqF (l.length + 1) l
def uqV (l : List UInt8) : List UInt8 := (uqO l).getD []
def uqB (l : List UInt8) : Bool := (uqO l).isSome
theorem no_e {l : List UInt8} (h1 : ¬ l = [92, 45]) {x : List UInt8} (h : quoteS x = l) : quoL x = l ∧ x ≠ [] := by
  by_cases hx : x = []
  · rw [← quoteS_e hx] at h; exact absurd h.symm h1
  · rw [← quoteS_n hx] at h; exact ⟨h, hx⟩
theorem uq_spec (l : List UInt8) : UQ l (uqV l) (uqB l) := by
  unfold uqV uqB uqO
  by_cases h1 : l = [92, 45]
  · rw [decide_eq_true h1]; exact .inl ⟨rfl, h1.symm⟩
  · rw [decide_eq_false h1]
    by_cases h2 : l = []
    · rw [decide_eq_true h2]
      refine .inr ⟨rfl, rfl, fun x hx => ?_⟩
      obtain ⟨e, hne⟩ := no_e h1 hx
      rw [h2] at e; exact hne (quoL_none e)
    · rw [decide_eq_false h2]
      cases e : unqF (l.length + 1) l with
      | some o =>
        have := unqF_some _ _ _ e
        refine .inl ⟨rfl, ?_⟩
        show quoteS o = l
        rw [← quoteS_n (fun q => h2 (by rw [q] at this; exact this.symm)), this]
      | none =>
        refine .inr ⟨rfl, rfl, fun x hx => ?_⟩
        obtain ⟨e2, hne⟩ := no_e h1 hx
        have h3 := unqF_quo (l.length + 1) x (by have := quoL_ge x; rw [e2] at this; omega)
        rw [e2, e] at h3; cases h3
def uqT (o : List UInt8) (b : Bool) : Value := .tuple #[.string ⟨o.toArray⟩, .bool b]
theorem uq_val {l o : List UInt8} {b : Bool} (h : UQ l o b) : uqT o b = uqT (uqV l) (uqB l) := by
  obtain ⟨h1, h2⟩ := uq_uniq h (uq_spec l); rw [h1, h2]
theorem uq_back (l : List UInt8) : uqT l true = uqT (uqV (quoteS l)) (uqB (quoteS l)) := uq_val (.inl ⟨rfl, rfl⟩)
theorem uq_again {l : List UInt8} (h : uqB l = true) : quoteS (uqV l) = l := by
  rcases uq_spec l with ⟨_, e⟩ | ⟨e, _⟩
  · exact e
  · rw [h] at e; cases e
/-- the program's way -/
theorem un_no {l out r : List UInt8} (h1 : ¬ l = [92, 45]) (hi : quoL out ++ r = l) (hr : ¬ r = []) (hp : preB r (quo (fstP r)) = false) : UQ l [] false := by
  refine .inr ⟨rfl, rfl, fun x hx => ?_⟩
  obtain ⟨e, _⟩ := no_e h1 hx
  obtain ⟨b', _, e2⟩ := quoL_cut out x r (hi.trans e.symm)
  cases b' with
  | nil => exact hr e2
  | cons d b' =>
    rw [quoL_cons] at e2
    rw [e2, fst_quo (byte_lt d), pre_app] at hp; cases hp
theorem un_go {l out r : List UInt8} (hi : quoL out ++ r = l) (hp : preB r (quo (fstP r)) = true) : quoL (out ++ [UInt8.ofNat (fstP r)]) ++ cutS r (quo (fstP r)) = l := by
  rw [quoL_app, quoL_cons, quoL_nil, List.append_nil, byte_of _ (fstP_lt r), List.append_assoc, ← pre_split hp, hi]
theorem un_end {l out r : List UInt8} (h2 : ¬ l = []) (hi : quoL out ++ r = l) (hr : r = []) : UQ l out true := by
  subst hr
  rw [List.append_nil] at hi
  exact .inl ⟨rfl, by rw [← quoteS_n (fun q => h2 (by rw [q] at hi; exact hi.symm)), hi]⟩
theorem un_nil {l : List UInt8} (h : l = []) : UQ l [] false := by
  refine .inr ⟨rfl, rfl, fun x hx => ?_⟩
  obtain ⟨e, hne⟩ := no_e (by rw [h]; simp) hx
  rw [h] at e; exact hne (quoL_none e)
theorem un_dash {l : List UInt8} (h : l = [92, 45]) : UQ l [] true := .inl ⟨rfl, h.symm⟩
theorem cut_lt {r : List UInt8} (hp : preB r (quo (fstP r)) = true) : (cutS r (quo (fstP r))).length < r.length := by
  have h := congrArg List.length (pre_split hp)
  rw [List.length_append] at h
  have := quo_pos (fstP r); omega
theorem out_le {l out r : List UInt8} (hi : quoL out ++ r = l) : out.length ≤ l.length := by
  have := quoL_ge out
  rw [← hi, List.length_append]; omega
/-- the bytes of a word -/
def wordB (b : UInt8) : Prop := 32 < b.toNat ∧ b.toNat ≤ 126 ∧ b.toNat ≠ 59 ∧ b.toNat ≠ 34
theorem hex_word : ∀ k : Fin 16, 32 < (hexS.getD k.val 0).toNat ∧ (hexS.getD k.val 0).toNat ≤ 126 ∧ (hexS.getD k.val 0).toNat ≠ 59 ∧ (hexS.getD k.val 0).toNat ≠ 34 := by decide +kernel
theorem quo_word {c : Nat} (hc : c < 256) : ∀ b ∈ quo c, wordB b := by
  unfold quo
  by_cases h : c = 92
  · rw [decide_eq_true h]; intro b hb; simp at hb; subst hb; unfold wordB; decide
  · rw [decide_eq_false h]
    cases e : escB c with
    | true =>
      intro b hb
      simp only [cond_false, cond_true, List.mem_cons, List.not_mem_nil, or_false] at hb
      rcases hb with rfl | rfl | rfl
      · unfold wordB; decide
      · exact hex_word ⟨c / 16, by omega⟩
      · exact hex_word ⟨c % 16, by omega⟩
    | false =>
      intro b hb
      simp only [cond_false, List.mem_cons, List.not_mem_nil, or_false] at hb
      subst hb
      unfold escB at e
      simp only [Bool.or_eq_false_iff, decide_eq_false_iff_not] at e
      unfold wordB
      rw [byte_of c hc]
      omega
theorem quoL_word (l : List UInt8) : ∀ b ∈ quoL l, wordB b := by
  intro b hb
  unfold quoL at hb
  rw [List.mem_flatMap] at hb
  obtain ⟨a, _, h⟩ := hb
  exact quo_word (byte_lt a) b h
theorem quoteS_word (l : List UInt8) : ∀ b ∈ quoteS l, wordB b := by
  by_cases h : l = []
  · rw [← quoteS_e h]; intro b hb; simp at hb
    rcases hb with rfl | rfl <;> (unfold wordB; decide)
  · rw [← quoteS_n h]; exact quoL_word l
theorem word_at {l : List UInt8} {i : Nat} (h : i < (quoteS l).length) : wordB ((quoteS l).getD i 0) :=
  quoteS_word l _ (by
    have : (quoteS l).getD i 0 = (quoteS l)[i] := by simp [List.getD, h]
    rw [this]; exact List.getElem_mem h)
end Go.Proofs.YtgmigcmhnmmdkaaDoor
