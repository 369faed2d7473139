/-
  Memory in two parts: what is never written (IM), and blocks of a call's own (a list); what a call leaves of both.
-/
import Derived.Orders
import Derived.Tactics
import Derived.Below
set_option linter.all false
namespace Go.Sep
open Go.RowKit

/-- Memory that is never written. -/
abbrev IM := Nat → Option Obj
def IM.Sub (I : IM) (w : World) : Prop := ∀ k o, I k = some o → w.heap[k]? = some o
def IM.Le (I J : IM) : Prop := ∀ k o, I k = some o → J k = some o
theorem IM.Le.refl (I : IM) : I.Le I := fun _ _ h => h
theorem IM.Le.trans {I J K : IM} (h : I.Le J) (k : J.Le K) : I.Le K := fun n o e => k n o (h n o e)
theorem IM.Sub.lt {I : IM} {w : World} (h : I.Sub w) {k : Nat} {o : Obj} (e : I k = some o) : k < w.heap.size := by
  have := h k o e
  rcases Nat.lt_or_ge k w.heap.size with h' | h'
  · exact h'
  · simp [Array.getElem?_eq_none h'] at this

abbrev OB := Nat × Obj
/-- Nothing has turned but blocks of m, of those that were there. -/
structure Fr (m : List Nat) (w w' : World) : Prop where
  os : w'.os = w.os
  tape : w'.tape = w.tape
  output : w'.output = w.output
  size : w.heap.size ≤ w'.heap.size
  block : ∀ k, k < w.heap.size → k ∉ m → w'.heap[k]? = w.heap[k]?
theorem Fr.refl (m : List Nat) (w : World) : Fr m w w := ⟨rfl, rfl, rfl, Nat.le_refl _, fun _ _ _ => rfl⟩
theorem Fr.below {w w' : World} (h : Fr [] w w') : Below w.heap.size w w' := ⟨h.os, h.tape, h.output, h.size, fun k hk => h.block k hk (by simp)⟩

structure St (w0 : World) (I0 : IM) (m : List Nat) (I : IM) (w : World) (H : List OB) : Prop where
  sub : I.Sub w
  le : I0.Le I
  new : ∀ k, k < w0.heap.size → k ∉ m → I k = I0 k
  fr : Fr m w0 w
  own : ∀ e ∈ H, w.heap[e.1]? = some e.2
  free : ∀ e ∈ H, I e.1 = none
  fresh : ∀ e ∈ H, w0.heap.size ≤ e.1 ∨ e.1 ∈ m
  nodup : (H.map (·.1)).Nodup

theorem St.lt {w0 : World} {I0 : IM} {m : List Nat} {I : IM} {w : World} {H : List OB} (s : St w0 I0 m I w H) {e : OB} (he : e ∈ H) : e.1 < w.heap.size := by
  have := s.own e he
  rcases Nat.lt_or_ge e.1 w.heap.size with h' | h'
  · exact h'
  · simp [Array.getElem?_eq_none h'] at this

theorem St.start {I : IM} {w : World} (h : I.Sub w) : St w I [] I w [] :=
  ⟨h, IM.Le.refl I, fun _ _ _ => rfl, Fr.refl _ _, by simp, by simp, by simp, by simp⟩

/-- Blocks that are handed over: the caller's own. -/
structure Owns (I : IM) (w : World) (H : List OB) : Prop where
  own : ∀ e ∈ H, w.heap[e.1]? = some e.2
  free : ∀ e ∈ H, I e.1 = none
  nodup : (H.map (·.1)).Nodup
theorem Owns.nil (I : IM) (w : World) : Owns I w [] := ⟨by simp, by simp, by simp⟩
theorem St.startM {I : IM} {w : World} {H : List OB} (h : I.Sub w) (o : Owns I w H) : St w I (H.map (·.1)) I w H :=
  ⟨h, IM.Le.refl I, fun _ _ _ => rfl, Fr.refl _ _, o.own, o.free, fun e he => .inr (List.mem_map.2 ⟨e, he, rfl⟩), o.nodup⟩

/-- What a call leaves. -/
def Post (w0 : World) (I0 : IM) (m : List Nat) (R : Value → IM → List OB → Prop) (e : Ending) (w' : World) : Prop :=
  ∃ v I' H', e = .returned v ∧ St w0 I0 m I' w' H' ∧ R v I' H'

/-- A CONTRACT: in whatever world that has I and the blocks handed over. -/
def FunM (P : Program) (f : FuncId) (args : Array Value) (I : IM) (H : List OB) (R : Value → IM → List OB → Prop) : Prop :=
  ∀ w, I.Sub w → Owns I w H → Calls P f args w (Post w I (H.map (·.1)) R)
/-- .. of a call that writes nothing that was there. -/
def Fun (P : Program) (f : FuncId) (args : Array Value) (I : IM) (R : Value → IM → Prop) : Prop :=
  ∀ w, I.Sub w → Calls P f args w (Post w I [] fun v I' _ => R v I')

theorem Fun.mono {P : Program} {f : FuncId} {args : Array Value} {I : IM} {R R' : Value → IM → Prop} (h : Fun P f args I R) (k : ∀ v I', I.Le I' → R v I' → R' v I') : Fun P f args I R' :=
  fun w hw => (h w hw).mono fun e w' ⟨v, I', H', he, s, r⟩ => ⟨v, I', H', he, s, k v I' s.le r⟩
theorem Fun.conv {P : Program} {f : FuncId} {args args' : Array Value} {I : IM} {R : Value → IM → Prop} (h : Fun P f args I R) (e : args' = args) : Fun P f args' I R := e ▸ h

theorem heap_lt {w : World} {k : Nat} {o : Obj} (h : w.heap[k]? = some o) : k < w.heap.size := by
  rcases Nat.lt_or_ge k w.heap.size with h' | h'
  · exact h'
  · simp [Array.getElem?_eq_none h'] at h

/-- Behind a call. -/
theorem St.after {w0 : World} {I0 : IM} {m : List Nat} {I I' : IM} {w w' : World} {H H' : List OB} (s : St w0 I0 m I w H) (p : St w I [] I' w' H') : St w0 I0 m I' w' H where
  sub := p.sub
  le := s.le.trans p.le
  new k hk hm := (p.new k (Nat.lt_of_lt_of_le hk s.fr.size) (by simp)).trans (s.new k hk hm)
  fr := ⟨p.fr.os.trans s.fr.os, p.fr.tape.trans s.fr.tape, p.fr.output.trans s.fr.output, Nat.le_trans s.fr.size p.fr.size,
    fun k hk hm => (p.fr.block k (Nat.lt_of_lt_of_le hk s.fr.size) (by simp)).trans (s.fr.block k hk hm)⟩
  own e he := (p.fr.block e.1 (s.lt he) (by simp)).trans (s.own e he)
  free e he := (p.new e.1 (s.lt he) (by simp)).trans (s.free e he)
  fresh := s.fresh
  nodup := s.nodup

/-- Behind a call to which blocks were handed over. -/
theorem St.afterM {w0 : World} {I0 : IM} {m : List Nat} {I I' : IM} {w w' : World} {Hi Hr H' : List OB} (s : St w0 I0 m I w (Hi ++ Hr)) (p : St w I (Hi.map (·.1)) I' w' H') : St w0 I0 m I' w' (H' ++ Hr) := by
  have hnd := s.nodup
  rw [List.map_append, List.nodup_append] at hnd
  obtain ⟨hn1, hn2, hdis⟩ := hnd
  have hr : ∀ e ∈ Hr, e.1 ∉ Hi.map (·.1) := fun e he hm => hdis e.1 hm e.1 (List.mem_map.2 ⟨e, he, rfl⟩) rfl
  have him : ∀ k, k < w0.heap.size → k ∉ m → k ∉ Hi.map (·.1) := fun k hk hm hmem => by
    obtain ⟨e, he, rfl⟩ := List.mem_map.1 hmem
    rcases s.fresh e (by simp [he]) with h | h
    · omega
    · exact hm h
  refine ⟨p.sub, s.le.trans p.le, fun k hk hm => ?_, ⟨p.fr.os.trans s.fr.os, p.fr.tape.trans s.fr.tape, p.fr.output.trans s.fr.output, Nat.le_trans s.fr.size p.fr.size, fun k hk hm => ?_⟩, fun e he => ?_, fun e he => ?_, fun e he => ?_, ?_⟩
  · exact (p.new k (Nat.lt_of_lt_of_le hk s.fr.size) (him k hk hm)).trans (s.new k hk hm)
  · exact (p.fr.block k (Nat.lt_of_lt_of_le hk s.fr.size) (him k hk hm)).trans (s.fr.block k hk hm)
  · rcases List.mem_append.1 he with h | h
    · exact p.own e h
    · exact (p.fr.block e.1 (s.lt (by simp [h])) (hr e h)).trans (s.own e (by simp [h]))
  · rcases List.mem_append.1 he with h | h
    · exact p.free e h
    · exact (p.new e.1 (s.lt (by simp [h])) (hr e h)).trans (s.free e (by simp [h]))
  · rcases List.mem_append.1 he with h | h
    · rcases p.fresh e h with h1 | h1
      · exact .inl (Nat.le_trans s.fr.size h1)
      · obtain ⟨e', he', heq⟩ := List.mem_map.1 h1
        rw [← heq]; exact s.fresh e' (by simp [he'])
    · exact s.fresh e (by simp [h])
  · rw [List.map_append, List.nodup_append]
    refine ⟨p.nodup, hn2, fun a ha b hb hab => ?_⟩
    obtain ⟨e, he, rfl⟩ := List.mem_map.1 ha
    obtain ⟨e', he', rfl⟩ := List.mem_map.1 hb
    rcases p.fresh e he with h1 | h1
    · have := s.lt (e := e') (by simp [he']); omega
    · exact hr e' he' (hab ▸ h1)

/-- Own blocks in another order. -/
theorem St.perm {w0 : World} {I0 : IM} {m : List Nat} {I : IM} {w : World} {H H' : List OB} (s : St w0 I0 m I w H) (h : H.Perm H') : St w0 I0 m I w H' :=
  ⟨s.sub, s.le, s.new, s.fr, fun e he => s.own e (h.mem_iff.2 he), fun e he => s.free e (h.mem_iff.2 he), fun e he => s.fresh e (h.mem_iff.2 he), (h.map _).nodup_iff.1 s.nodup⟩
theorem St.drop {w0 : World} {I0 : IM} {m : List Nat} {I : IM} {w : World} {H H' : List OB} (s : St w0 I0 m I w H) (h : List.Sublist H' H) : St w0 I0 m I w H' :=
  ⟨s.sub, s.le, s.new, s.fr, fun e he => s.own e (h.mem he), fun e he => s.free e (h.mem he), fun e he => s.fresh e (h.mem he), s.nodup.sublist (h.map _)⟩

/-- A block of one's own is never written from now on. -/
def IM.add (I : IM) (k : Nat) (o : Obj) : IM := fun n => if n = k then some o else I n
theorem IM.add_self (I : IM) (k : Nat) (o : Obj) : I.add k o k = some o := by simp [IM.add]
theorem IM.le_add {I : IM} {k : Nat} (h : I k = none) (o : Obj) : I.Le (I.add k o) := fun n x e => by
  unfold IM.add
  split
  · rename_i hn; rw [hn, h] at e; cases e
  · exact e
theorem St.freeze {w0 : World} {I0 : IM} {m : List Nat} {I : IM} {w : World} {k : Nat} {o : Obj} {H : List OB} (s : St w0 I0 m I w ((k, o) :: H)) : St w0 I0 m (I.add k o) w H := by
  have hk := s.free (k, o) (by simp)
  have hnd := s.nodup
  simp only [List.map_cons, List.nodup_cons] at hnd
  refine ⟨fun n x e => ?_, s.le.trans (IM.le_add hk o), fun n hn hm => ?_, s.fr, fun e he => s.own e (by simp [he]), fun e he => ?_, fun e he => s.fresh e (by simp [he]), hnd.2⟩
  · unfold IM.add at e
    split at e
    · rename_i h; subst h; cases e; exact s.own (n, o) (by simp)
    · exact s.sub n x e
  · unfold IM.add
    split
    · rename_i h
      rcases s.fresh (k, o) (by simp) with h1 | h1
      · simp only at h1; omega
      · exact absurd (h ▸ h1) hm
    · exact s.new n hn hm
  · unfold IM.add
    split
    · rename_i h; exact absurd (List.mem_map.2 ⟨e, he, h⟩) hnd.1
    · exact s.free e (by simp [he])

theorem St.drew {w0 : World} {I0 : IM} {m : List Nat} {I : IM} {w : World} {H : List OB} (s : St w0 I0 m I w H) : St w0 I0 m I { w with drawn := w.drawn + 1 } H :=
  ⟨s.sub, s.le, s.new, ⟨s.fr.os, s.fr.tape, s.fr.output, s.fr.size, s.fr.block⟩, s.own, s.free, s.fresh, s.nodup⟩
theorem St.push {w0 : World} {I0 : IM} {m : List Nat} {I : IM} {w : World} {H : List OB} (s : St w0 I0 m I w H) (o : Obj) : St w0 I0 m I { w with heap := w.heap.push o } (H ++ [(w.heap.size, o)]) := by
  have same : ∀ k, k < w.heap.size → (w.heap.push o)[k]? = w.heap[k]? := fun k hk => by rw [Array.getElem?_push, if_neg (by omega)]
  refine ⟨fun k x e => (same k (s.sub.lt e)).trans (s.sub k x e), s.le, s.new, ⟨s.fr.os, s.fr.tape, s.fr.output, Nat.le_trans s.fr.size (by simp), fun k hk hm => (same k (Nat.lt_of_lt_of_le hk s.fr.size)).trans (s.fr.block k hk hm)⟩, fun e he => ?_, fun e he => ?_, fun e he => ?_, ?_⟩
  · rcases List.mem_append.1 he with h | h
    · exact (same e.1 (s.lt h)).trans (s.own e h)
    · simp at h; subst h; simp
  · rcases List.mem_append.1 he with h | h
    · exact s.free e h
    · simp at h; subst h
      cases hI : I w.heap.size with
      | none => rfl
      | some x => have := s.sub.lt hI; omega
  · rcases List.mem_append.1 he with h | h
    · exact s.fresh e h
    · simp at h; subst h; exact .inl s.fr.size
  · rw [List.map_append, List.nodup_append]
    refine ⟨s.nodup, by simp, fun a ha b hb hab => ?_⟩
    obtain ⟨e, he, rfl⟩ := List.mem_map.1 ha
    simp at hb; subst hb
    have := s.lt he; omega
/-- A block of one's own is another one now. -/
theorem St.set {w0 : World} {I0 : IM} {m : List Nat} {I : IM} {w w' : World} {H : List OB} (s : St w0 I0 m I w H) {i k : Nat} {o o' : Obj} (hi : H[i]? = some (k, o))
    (hos : w'.os = w.os) (ht : w'.tape = w.tape) (hout : w'.output = w.output) (hsz : w'.heap.size = w.heap.size) (hk : w'.heap[k]? = some o') (hb : ∀ n, n ≠ k → w'.heap[n]? = w.heap[n]?) :
    St w0 I0 m I w' (H.set i (k, o')) := by
  have hmem : (k, o) ∈ H := List.mem_of_getElem? hi
  have hkI := s.free _ hmem
  have hmap : (H.set i (k, o')).map (·.1) = H.map (·.1) := by
    rw [List.map_set]
    apply List.ext_getElem?
    intro j
    rw [List.getElem?_set]
    split
    · rename_i h; subst h
      split
      · simp [hi]
      · rename_i h2; have := (List.getElem?_eq_some_iff.1 hi).1; simp at h2; omega
    · rfl
  have hcase : ∀ e ∈ H.set i (k, o'), e = (k, o') ∨ (e ∈ H ∧ e.1 ≠ k) := fun e he => by
    rw [List.mem_iff_getElem?] at he
    obtain ⟨j, hj⟩ := he
    rw [List.getElem?_set] at hj
    split at hj
    · split at hj
      · simp at hj; exact .inl hj.symm
      · simp at hj
    · rename_i hne
      refine .inr ⟨List.mem_of_getElem? hj, fun hek => ?_⟩
      have hn := s.nodup
      rw [List.nodup_iff_pairwise_ne, List.pairwise_iff_getElem] at hn
      obtain ⟨hj1, hj2⟩ := List.getElem?_eq_some_iff.1 hj
      obtain ⟨hi1, hi2⟩ := List.getElem?_eq_some_iff.1 hi
      rcases Nat.lt_or_gt_of_ne hne with h | h
      · exact hn i j (by simpa using hi1) (by simpa using hj1) h (by simp [hi2, hj2, hek])
      · exact hn j i (by simpa using hj1) (by simpa using hi1) h (by simp [hi2, hj2, hek])
  refine ⟨fun n x e => ?_, s.le, s.new, ⟨hos.trans s.fr.os, ht.trans s.fr.tape, hout.trans s.fr.output, by rw [hsz]; exact s.fr.size, fun n hn hm => ?_⟩, fun e he => ?_, fun e he => ?_, fun e he => ?_, by rw [hmap]; exact s.nodup⟩
  · rw [hb n (fun h => by rw [h, hkI] at e; cases e)]; exact s.sub n x e
  · rw [hb n (fun h => ?_)]
    · exact s.fr.block n hn hm
    · rcases s.fresh _ hmem with h1 | h1
      · simp only at h1; omega
      · exact hm (h ▸ h1)
  · rcases hcase e he with rfl | ⟨h1, h2⟩
    · exact hk
    · rw [hb _ h2]; exact s.own e h1
  · rcases hcase e he with rfl | ⟨h1, h2⟩
    · exact hkI
    · exact s.free e h1
  · rcases hcase e he with rfl | ⟨h1, h2⟩
    · exact (s.fresh (k, o) hmem : _)
    · exact s.fresh e h1

end Go.Sep
