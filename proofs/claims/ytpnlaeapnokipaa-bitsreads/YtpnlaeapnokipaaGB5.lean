/- Slices of bools, as those of bytes. -/
import Derived.Test.YtpnlaeapnokipaaGB4
set_option linter.all false
set_option maxRecDepth 100000
namespace Go.Proofs.Ytpnlaeapnokipaa
open Go.RowKit Go.Sep
def BoS (I : IM) (l : List Bool) (v : Value) : Prop := ∃ a cap, v = .slice a l.length cap ∧ l.length ≤ cap ∧ ∀ j x, l[j]? = some x → ∃ b o cs T fr, a = some ⟨b, o, none⟩ ∧ I b = some (.cells cs T fr) ∧ cs[o + j]? = some (.bool x)
theorem BoS.mono {I J : IM} (le : I.Le J) {l : List Bool} {v : Value} (h : BoS I l v) : BoS J l v := by
  obtain ⟨a, cap, hv, hc, hr⟩ := h
  refine ⟨a, cap, hv, hc, fun j x hj => ?_⟩
  obtain ⟨b, o, cs, T, fr, h1, h2, h3⟩ := hr j x hj
  exact ⟨b, o, cs, T, fr, h1, le _ _ h2, h3⟩
theorem bos_nil (I : IM) : BoS I [] (.slice none 0 0) := ⟨none, 0, rfl, Nat.le_refl _, fun j x h => by simp at h⟩
theorem BoS.cap {I : IM} {l : List Bool} {a : Option Addr} {n c : Nat} (h : BoS I l (.slice a n c)) : n = l.length ∧ l.length ≤ c := by
  obtain ⟨a', c', hv, hc, _⟩ := h
  cases hv; exact ⟨rfl, hc⟩
theorem BoS.open {I : IM} {l : List Bool} {v : Value} (h : BoS I l v) : ∃ a c, v = .slice a l.length c ∧ l.length ≤ c ∧ BoS I l (.slice a l.length c) := by
  obtain ⟨a, c, hv, hc, _⟩ := id h
  subst hv
  exact ⟨a, c, rfl, hc, h⟩
theorem under26 : Try.prog.underlying 26 = some (.slice 4) := by kernel_rfl
theorem size4 (w : World) : (sizeOf 4).run Try.prog w = .ok 1 w := by kernel_rfl
theorem getD_someB {l : List Bool} {i : Nat} (h : i < l.length) : l[i]? = some (l.getD i false) := by simp [h]
theorem bos_idx {I : IM} {w : World} {l : List Bool} {a : Option Addr} {n c i : Nat} (h : BoS I l (.slice a n c)) (hi : i < l.length) :
    (Instr.indexAt 26 (.slice a n c) (.int .i64 ((i : Nat) : Int))).run Try.prog w = .ok (.pointer (pAt a i)) w := by
  obtain ⟨a', c', hv, hc, hr⟩ := h
  cases hv
  obtain ⟨b, o, cs, T, fr, rfl, h2, h3⟩ := hr i _ (getD_someB hi)
  have h2 : (i : Int) < (l.length : Int) := by omega
  simp [Instr.indexAt, asIntOf, run_underlying under26, size4, h2, pAt]
  intro h3; omega
theorem bos_ld {I : IM} {w : World} (hS : I.Sub w) {l : List Bool} {a : Option Addr} {n c i : Nat} (h : BoS I l (.slice a n c)) (hi : i < l.length) :
    (Instr.loadAt 4 (.pointer (pAt a i))).run Try.prog w = .ok (.bool (l.getD i false)) w := by
  obtain ⟨a', c', hv, hc, hr⟩ := h
  cases hv
  obtain ⟨b, o, cs, T, fr, rfl, h2, h3⟩ := hr i _ (getD_someB hi)
  have e : (Instr.loadAt 4 (.pointer (pAt (some ⟨b, o, none⟩) i))).run Try.prog w = (load ⟨b, o + i, none⟩).run Try.prog w := by
    rw [show pAt (some ⟨b, o, none⟩) i = some ⟨b, o + i, none⟩ from congrArg some (addr_addO b o i)]
    kernel_rfl
  have hc := run_cell (a := ⟨b, o + i, none⟩) (hS _ _ h2) rfl rfl
  rw [h3] at hc
  rw [e]; simp only [load, Sem.run, hc]
theorem run_toB {w : World} {a : Option Addr} {n h cap : Nat} {k : IntKind} (h1 : h ≤ cap) : (Instr.sliceAt 26 (.slice a n cap) none (some (.int k ((h : Nat) : Int))) none).run Try.prog w = .ok (.slice a h cap) w := by
  have hb : (Instr.sliceBound (.int k ((h : Nat) : Int)) cap .sliceAcap).run Try.prog w = .ok h w := run_bound h1
  simp [Instr.sliceAt, Instr.slice, run_underlying under26, Instr.sliceBounds, hb, size4]
  intro _
  exact map_add_zero a
theorem run_fromB {w : World} {a : Option Addr} {n lo cap : Nat} {k : IntKind} (h1 : lo ≤ n) : (Instr.sliceAt 26 (.slice a n cap) (some (.int k ((lo : Nat) : Int))) none none).run Try.prog w = .ok (.slice (subA a lo cap) (n - lo) (cap - lo)) w := by
  have hb : (Instr.sliceBound (.int k ((lo : Nat) : Int)) n .sliceB).run Try.prog w = .ok lo w := run_bound h1
  simp [Instr.sliceAt, Instr.slice, run_underlying under26, Instr.sliceBounds, hb, size4, subA]
theorem run_midB {w : World} {a : Option Addr} {n lo hi cap : Nat} {k k2 : IntKind} (h1 : lo ≤ hi) (h2 : hi ≤ cap) : (Instr.sliceAt 26 (.slice a n cap) (some (.int k ((lo : Nat) : Int))) (some (.int k2 ((hi : Nat) : Int))) none).run Try.prog w = .ok (.slice (subA a lo cap) (hi - lo) (cap - lo)) w := by
  have hb : (Instr.sliceBound (.int k2 ((hi : Nat) : Int)) cap .sliceAcap).run Try.prog w = .ok hi w := run_bound h2
  have hb2 : (Instr.sliceBound (.int k ((lo : Nat) : Int)) hi .sliceB).run Try.prog w = .ok lo w := run_bound h1
  simp [Instr.sliceAt, Instr.slice, run_underlying under26, Instr.sliceBounds, hb, hb2, size4, subA]
theorem bos_mid {I : IM} {l : List Bool} {a : Option Addr} {n c lo hi : Nat} (h : BoS I l (.slice a n c)) (h1 : lo ≤ hi) (h2 : hi ≤ l.length) : BoS I ((l.take hi).drop lo) (.slice (subA a lo c) (hi - lo) (c - lo)) := by
  obtain ⟨a', c', hv, hc, hr⟩ := h
  cases hv
  refine ⟨_, _, by rw [List.length_drop, List.length_take, Nat.min_eq_left h2], by rw [List.length_drop, List.length_take]; omega, fun j x hj => ?_⟩
  rw [List.getElem?_drop, List.getElem?_take] at hj
  split at hj
  · rename_i hlt
    obtain ⟨b, o, cs, T, fr, rfl, h2', h3⟩ := hr _ _ hj
    refine ⟨b, o + lo, cs, T, fr, ?_, h2', by rw [Nat.add_assoc]; exact h3⟩
    unfold subA
    rw [if_neg (by omega)]
    exact congrArg some (addr_addO b o lo)
  · cases hj
theorem bos_from {I : IM} {l : List Bool} {a : Option Addr} {n c lo : Nat} (h : BoS I l (.slice a n c)) (h1 : lo ≤ l.length) : BoS I (l.drop lo) (.slice (subA a lo c) (n - lo) (c - lo)) := by
  obtain ⟨hn, hc⟩ := h.cap
  have := bos_mid h h1 (Nat.le_refl _)
  rw [List.take_length] at this
  rw [hn]; exact this
theorem bos_to3 {I : IM} {l : List Bool} {a : Option Addr} {n c hi m : Nat} (h : BoS I l (.slice a n c)) (h2 : hi ≤ l.length) (h3 : hi ≤ m) : BoS I (l.take hi) (.slice a hi m) := by
  obtain ⟨a', c', hv, hc, hr⟩ := h
  cases hv
  refine ⟨_, _, by rw [List.length_take, Nat.min_eq_left h2], by rw [List.length_take]; omega, fun j x hj => ?_⟩
  rw [List.getElem?_take] at hj
  split at hj
  · exact hr _ _ hj
  · cases hj
theorem bos_to {I : IM} {l : List Bool} {a : Option Addr} {n c hi : Nat} (h : BoS I l (.slice a n c)) (h2 : hi ≤ l.length) : BoS I (l.take hi) (.slice a hi c) :=
  bos_to3 h h2 (Nat.le_trans h2 h.cap.2)
theorem one_bB (l : List Bool) : (l.map Value.bool).all (·.oneCell') = true := by
  rw [List.all_map]; exact List.all_eq_true.2 fun x _ => rfl
theorem src_bos {I : IM} {w : World} (hs : I.Sub w) {l : List Bool} {a : Option Addr} {n c : Nat} (h : BoS I l (.slice a n c)) : Src Try.prog 1 26 (.slice a n c) l.length (l.map Value.bool) w := by
  obtain ⟨a', c', hv, hc, hr⟩ := h
  cases hv
  cases l with
  | nil => 
    cases a with
    | none => exact Src.ofNil w under26 c
    | some x => exact Src.ofSlice w under26 x 0 c [] rfl (fun j u hu => by simp at hu) (fun u hu => by simp at hu)
  | cons y l =>
    obtain ⟨b, o, cs, T, fr, rfl, _, _⟩ := hr 0 y rfl
    refine Src.ofSlice w under26 ⟨b, o, none⟩ _ c _ (by simp) (fun j u hu => ?_) (fun u hu => by simpa using List.all_eq_true.1 (one_bB _) u hu)
    rw [List.getElem?_map, Option.map_eq_some_iff] at hu
    obtain ⟨x, hx, rfl⟩ := hu
    obtain ⟨b', o', cs', T', fr', e1, e2, e3⟩ := hr j x hx
    cases e1
    rw [addr_addO, run_cell (a := ⟨b, o + j, none⟩) (hs _ _ e2) rfl rfl]
    exact e3
theorem freeze_rowB {w0 : World} {I0 : IM} {m : List Nat} {I : IM} {w : World} {H F : List OB} {l : List Bool} {v : Value} {n : Nat} (s : St w0 I0 m I w (H ++ F)) (h : RowH 4 1 v n (l.map Value.bool) F) :
    ∃ I', I.Le I' ∧ BoS I' l v ∧ St w0 I0 m I' w H := by
  have hl : l.length = n := by have := h.1; simpa using this
  rcases h.2 with ⟨rfl, rfl, rfl⟩ | ⟨g, cap, cur, rfl, rfl, hnc, hcm, hcs, ht⟩
  · have : l = [] := List.eq_nil_of_length_eq_zero hl
    subst this
    exact ⟨I, IM.Le.refl I, bos_nil I, by simpa using s⟩
  · have s2 := (s.perm (H' := (g, .cells cur 4) :: H) (by exact List.perm_append_comm))
    refine ⟨_, IM.le_add (s2.free (g, .cells cur 4) (by simp)) _, ?_, s2.freeze⟩
    refine ⟨some ⟨g, 0, none⟩, cap, congrArg (fun q => Value.slice (some ⟨g, 0, none⟩) q cap) hl.symm, by omega, fun j x hj => ⟨g, 0, cur, 4, (0, 0), rfl, IM.add_self _ _ _, ?_⟩⟩
    have hx : (l.map Value.bool)[j]? = some (Value.bool x) := by rw [List.getElem?_map, hj]; rfl
    rw [← ht, List.getElem?_take] at hx
    split at hx
    · have hx' : cur[j]? = some (Value.bool x) := by simpa using hx
      rw [Nat.zero_add]; exact hx'
    · cases hx
def boR (L : List Bool) (v : Value) (J : IM) : Prop := ∃ a c, v = .slice a (List.length L) c ∧ BoS J L (.slice a (List.length L) c)
theorem fun_of_rowBo {f : FuncId} {args : Array Value} {I : IM} {n : Nat} {L : List Bool} (h : FunM Try.prog f args I [] (fun v J F => RowH 4 1 v n (L.map Value.bool) F)) :
    Fun Try.prog f args I (fun v J => boR L v J) := by
  intro w hw
  refine (h w hw (Owns.nil I w)).mono ?_
  rintro en w' ⟨v, I', H', he, s, hr⟩
  obtain ⟨J, le, hb, s2⟩ := freeze_rowB (H := []) s hr
  obtain ⟨a, c, rfl, _, hb⟩ := hb.open
  exact ⟨_, J, [], he, s2, a, c, rfl, hb⟩
theorem row_nilBo : RowH 4 1 (.slice none 0 0) 0 (([] : List Bool).map Value.bool) [] := RowH.nil 4 1
theorem row_snocB {v : Value} {k : Nat} {x y : List Bool} {nw : List Value} {F : List OB} (h : RowH 4 1 v k (x.map Value.bool ++ nw) F) (e : nw = y.map Value.bool) : RowH 4 1 v (x ++ y).length ((x ++ y).map Value.bool) F := by
  subst e
  have hk : k = (x ++ y).length := by have := h.1; simp at this ⊢; omega
  subst hk
  rw [List.map_append]; exact h
theorem row_appB {v : Value} {k : Nat} {x y : List Bool} {F : List OB} (h : RowH 4 1 v k (x.map Value.bool ++ y.map Value.bool) F) : RowH 4 1 v (x ++ y).length ((x ++ y).map Value.bool) F := row_snocB h rfl
theorem bos_eq {I : IM} {l l2 : List Bool} {v : Value} (h : BoS I l v) (e : l = l2) : BoS I l2 v := e ▸ h
end Go.Proofs.Ytpnlaeapnokipaa
