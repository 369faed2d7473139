/- Slices of bytes that are never written: read, cut; rows of bytes; bits of numbers. -/
import Derived.Test.YtccjlkjadnghgaaProg
import Derived.Test.YtccjlkjadnghgaaDnS10
import Derived.LoopN
set_option linter.all false
set_option maxRecDepth 100000
namespace Go.Proofs.Ytccjlkjadnghgaa
open Go.RowKit Go.Sep

def bV (x : UInt8) : Value := .int .u8 ((x.toNat : Nat) : Int)
def BSl (I : IM) (l : List UInt8) (v : Value) : Prop := ∃ a cap, v = .slice a l.length cap ∧ l.length ≤ cap ∧ ∀ j x, l[j]? = some x → ∃ b o cs T fr, a = some ⟨b, o, none⟩ ∧ I b = some (.cells cs T fr) ∧ cs[o + j]? = some (.int .u8 ((x.toNat : Nat) : Int))
theorem BSl.mono {I J : IM} (le : I.Le J) {l : List UInt8} {v : Value} (h : BSl I l v) : BSl J l v := by
  obtain ⟨a, cap, hv, hc, hr⟩ := h
  refine ⟨a, cap, hv, hc, fun j x hj => ?_⟩
  obtain ⟨b, o, cs, T, fr, h1, h2, h3⟩ := hr j x hj
  exact ⟨b, o, cs, T, fr, h1, le _ _ h2, h3⟩
theorem bsl_nil (I : IM) : BSl I [] (.slice none 0 0) := ⟨none, 0, rfl, Nat.le_refl _, fun j x h => by simp at h⟩
theorem BSl.cap {I : IM} {l : List UInt8} {a : Option Addr} {n c : Nat} (h : BSl I l (.slice a n c)) : n = l.length ∧ l.length ≤ c := by
  obtain ⟨a', c', hv, hc, _⟩ := h
  cases hv; exact ⟨rfl, hc⟩
theorem BSl.open {I : IM} {l : List UInt8} {v : Value} (h : BSl I l v) : ∃ a c, v = .slice a l.length c ∧ l.length ≤ c ∧ BSl I l (.slice a l.length c) := by
  obtain ⟨a, c, hv, hc, _⟩ := id h
  subst hv
  exact ⟨a, c, rfl, hc, h⟩
theorem under34 : Try.prog.underlying 29 = some (.slice 5) := by kernel_rfl
theorem size5 (w : World) : (sizeOf 5).run Try.prog w = .ok 1 w := by kernel_rfl
theorem addr_addO (b o k : Nat) : (⟨b, o, none⟩ : Addr).add k = ⟨b, o + k, none⟩ := by unfold Addr.add; split <;> simp_all
theorem map_add_zero (a : Option Addr) : a.map (·.add 0) = a := by cases a <;> rfl
theorem getD_some {l : List UInt8} {i : Nat} (h : i < l.length) : l[i]? = some (l.getD i 0) := by simp [h]
theorem run_to {w : World} {a : Option Addr} {n h cap : Nat} {k : IntKind} (h1 : h ≤ cap) : (Instr.sliceAt 29 (.slice a n cap) none (some (.int k ((h : Nat) : Int))) none).run Try.prog w = .ok (.slice a h cap) w := by
  have hb : (Instr.sliceBound (.int k ((h : Nat) : Int)) cap .sliceAcap).run Try.prog w = .ok h w := run_bound h1
  simp [Instr.sliceAt, Instr.slice, run_underlying under34, Instr.sliceBounds, hb, size5]
  intro _
  exact map_add_zero a
theorem bsl_to3 {I : IM} {l : List UInt8} {a : Option Addr} {n c hi m : Nat} (h : BSl I l (.slice a n c)) (h2 : hi ≤ l.length) (h3 : hi ≤ m) : BSl I (l.take hi) (.slice a hi m) := by
  obtain ⟨a', c', hv, hc, hr⟩ := h
  cases hv
  refine ⟨_, _, by rw [List.length_take, Nat.min_eq_left h2], by rw [List.length_take]; omega, fun j x hj => ?_⟩
  rw [List.getElem?_take] at hj
  split at hj
  · exact hr _ _ hj
  · cases hj
theorem bsl_to {I : IM} {l : List UInt8} {a : Option Addr} {n c hi : Nat} (h : BSl I l (.slice a n c)) (h2 : hi ≤ l.length) : BSl I (l.take hi) (.slice a hi c) :=
  bsl_to3 h h2 (Nat.le_trans h2 h.cap.2)
theorem one_bV (l : List UInt8) : (l.map bV).all (·.oneCell') = true := by
  rw [List.all_map]; exact List.all_eq_true.2 fun x _ => rfl
theorem src_bsl {I : IM} {w : World} (hs : I.Sub w) {l : List UInt8} {a : Option Addr} {n c : Nat} (h : BSl I l (.slice a n c)) : Src Try.prog 1 29 (.slice a n c) l.length (l.map bV) w := by
  obtain ⟨a', c', hv, hc, hr⟩ := h
  cases hv
  cases l with
  | nil => 
    cases a with
    | none => exact Src.ofNil w under34 c
    | some x => exact Src.ofSlice w under34 x 0 c [] rfl (fun j u hu => by simp at hu) (fun u hu => by simp at hu)
  | cons y l =>
    obtain ⟨b, o, cs, T, fr, rfl, _, _⟩ := hr 0 y rfl
    refine Src.ofSlice w under34 ⟨b, o, none⟩ _ c _ (by simp) (fun j u hu => ?_) (fun u hu => by simpa using List.all_eq_true.1 (one_bV _) u hu)
    rw [List.getElem?_map, Option.map_eq_some_iff] at hu
    obtain ⟨x, hx, rfl⟩ := hu
    obtain ⟨b', o', cs', T', fr', e1, e2, e3⟩ := hr j x hx
    cases e1
    rw [addr_addO, run_cell (a := ⟨b, o + j, none⟩) (hs _ _ e2) rfl rfl]
    exact e3
theorem freeze_row {w0 : World} {I0 : IM} {m : List Nat} {I : IM} {w : World} {H F : List OB} {l : List UInt8} {v : Value} {n : Nat} (s : St w0 I0 m I w (H ++ F)) (h : RowH 5 1 v n (l.map bV) F) :
    ∃ I', I.Le I' ∧ BSl I' l v ∧ St w0 I0 m I' w H := by
  have hl : l.length = n := by have := h.1; simpa using this
  rcases h.2 with ⟨rfl, rfl, rfl⟩ | ⟨g, cap, cur, rfl, rfl, hnc, hcm, hcs, ht⟩
  · have : l = [] := List.eq_nil_of_length_eq_zero hl
    subst this
    exact ⟨I, IM.Le.refl I, bsl_nil I, by simpa using s⟩
  · have s2 := (s.perm (H' := (g, .cells cur 5) :: H) (by exact List.perm_append_comm))
    refine ⟨_, IM.le_add (s2.free (g, .cells cur 5) (by simp)) _, ?_, s2.freeze⟩
    refine ⟨some ⟨g, 0, none⟩, cap, congrArg (fun q => Value.slice (some ⟨g, 0, none⟩) q cap) hl.symm, by omega, fun j x hj => ⟨g, 0, cur, 5, (0, 0), rfl, IM.add_self _ _ _, ?_⟩⟩
    have hx : (l.map bV)[j]? = some (bV x) := by rw [List.getElem?_map, hj]; rfl
    rw [← ht, List.getElem?_take] at hx
    split at hx
    · have hx' : cur[j]? = some (bV x) := by simpa using hx
      rw [Nat.zero_add]; exact hx'
    · cases hx
def bsR (L : List UInt8) (v : Value) (J : IM) : Prop := ∃ a c, v = .slice a (List.length L) c ∧ BSl J L (.slice a (List.length L) c)
theorem fun_of_rowB {f : FuncId} {args : Array Value} {I : IM} {n : Nat} {L : List UInt8} (h : FunM Try.prog f args I [] (fun v J F => RowH 5 1 v n (L.map bV) F)) :
    Fun Try.prog f args I (fun v J => bsR L v J) := by
  intro w hw
  refine (h w hw (Owns.nil I w)).mono ?_
  rintro en w' ⟨v, I', H', he, s, hr⟩
  obtain ⟨J, le, hb, s2⟩ := freeze_row (H := []) s hr
  obtain ⟨a, c, rfl, _, hb⟩ := hb.open
  exact ⟨_, J, [], he, s2, a, c, rfl, hb⟩
theorem row_new (g : Nat) : RowH 5 1 (.slice (some ⟨g, 0, none⟩) 0 0) 0 (([] : List UInt8).map bV) [(g, .cells #[] 5)] :=
  ⟨rfl, .inr ⟨g, 0, #[], rfl, rfl, Nat.le_refl _, by decide, rfl, rfl⟩⟩
theorem row_nilB : RowH 5 1 (.slice none 0 0) 0 (([] : List UInt8).map bV) [] := RowH.nil 5 1
end Go.Proofs.Ytccjlkjadnghgaa

