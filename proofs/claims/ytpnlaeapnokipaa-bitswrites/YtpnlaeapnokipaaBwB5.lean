/- Slices of bools, as those of bytes. -/
import Derived.Test.YtpnlaeapnokipaaBwB4
set_option linter.all false
set_option maxRecDepth 100000
namespace Go.Proofs.Ytpnlaeapnokipaa
open Go.RowKit Go.Sep
def BoS (I : IM) (l : List Bool) (v : Value) : Prop := ∃ a cap, v = .slice a l.length cap ∧ l.length ≤ cap ∧ ∀ j x, l[j]? = some x → ∃ b o cs T fr, a = some ⟨b, o, none⟩ ∧ I b = some (.cells cs T fr) ∧ cs[o + j]? = some (.bool x)
theorem BoS.mono {I J : IM} (le : I.Le J) {l : List Bool} {v : Value} (h : BoS I l v) : BoS J l v := by
  obtain ⟨a, cap, hv, hc, hr⟩ := h
  refine ⟨a, cap, hv, hc, fun j x hj => ?_⟩
  obtain ⟨b, o, cs, T, fr, h1, h2, h3⟩ := hr j x hj
  exact ⟨b, o, cs, T, fr, h1, le _ _ h2, h3⟩
theorem bos_nil (I : IM) : BoS I [] (.slice none 0 0) := ⟨none, 0, rfl, Nat.le_refl _, fun j x h => by simp at h⟩
theorem BoS.cap {I : IM} {l : List Bool} {a : Option Addr} {n c : Nat} (h : BoS I l (.slice a n c)) : n = l.length ∧ l.length ≤ c := by
  obtain ⟨a', c', hv, hc, _⟩ := h
  cases hv; exact ⟨rfl, hc⟩
theorem BoS.open {I : IM} {l : List Bool} {v : Value} (h : BoS I l v) : ∃ a c, v = .slice a l.length c ∧ l.length ≤ c ∧ BoS I l (.slice a l.length c) := by
  obtain ⟨a, c, hv, hc, _⟩ := id h
  subst hv
  exact ⟨a, c, rfl, hc, h⟩
theorem under26 : Try.prog.underlying 26 = some (.slice 4) := by kernel_rfl
theorem size4 (w : World) : (sizeOf 4).run Try.prog w = .ok 1 w := by kernel_rfl
theorem getD_someB {l : List Bool} {i : Nat} (h : i < l.length) : l[i]? = some (l.getD i false) := by simp [h]
theorem bos_idx {I : IM} {w : World} {l : List Bool} {a : Option Addr} {n c i : Nat} (h : BoS I l (.slice a n c)) (hi : i < l.length) :
    (Instr.indexAt 26 (.slice a n c) (.int .i64 ((i : Nat) : Int))).run Try.prog w = .ok (.pointer (pAt a i)) w := by
  obtain ⟨a', c', hv, hc, hr⟩ := h
  cases hv
  obtain ⟨b, o, cs, T, fr, rfl, h2, h3⟩ := hr i _ (getD_someB hi)
  have h2 : (i : Int) < (l.length : Int) := by omega
  simp [Instr.indexAt, asIntOf, run_underlying under26, size4, h2, pAt]
  intro h3; omega
theorem bos_ld {I : IM} {w : World} (hS : I.Sub w) {l : List Bool} {a : Option Addr} {n c i : Nat} (h : BoS I l (.slice a n c)) (hi : i < l.length) :
    (Instr.loadAt 4 (.pointer (pAt a i))).run Try.prog w = .ok (.bool (l.getD i false)) w := by
  obtain ⟨a', c', hv, hc, hr⟩ := h
  cases hv
  obtain ⟨b, o, cs, T, fr, rfl, h2, h3⟩ := hr i _ (getD_someB hi)
  have e : (Instr.loadAt 4 (.pointer (pAt (some ⟨b, o, none⟩) i))).run Try.prog w = (load ⟨b, o + i, none⟩).run Try.prog w := by
    rw [show pAt (some ⟨b, o, none⟩) i = some ⟨b, o + i, none⟩ from congrArg some (addr_addO b o i)]
    kernel_rfl
  have hc := run_cell (a := ⟨b, o + i, none⟩) (hS _ _ h2) rfl rfl
  rw [h3] at hc
  rw [e]; simp only [load, Sem.run, hc]
theorem one_bB (l : List Bool) : (l.map Value.bool).all (·.oneCell') = true := by
  rw [List.all_map]; exact List.all_eq_true.2 fun x _ => rfl
theorem src_bos {I : IM} {w : World} (hs : I.Sub w) {l : List Bool} {a : Option Addr} {n c : Nat} (h : BoS I l (.slice a n c)) : Src Try.prog 1 26 (.slice a n c) l.length (l.map Value.bool) w := by
  obtain ⟨a', c', hv, hc, hr⟩ := h
  cases hv
  cases l with
  | nil => 
    cases a with
    | none => exact Src.ofNil w under26 c
    | some x => exact Src.ofSlice w under26 x 0 c [] rfl (fun j u hu => by simp at hu) (fun u hu => by simp at hu)
  | cons y l =>
    obtain ⟨b, o, cs, T, fr, rfl, _, _⟩ := hr 0 y rfl
    refine Src.ofSlice w under26 ⟨b, o, none⟩ _ c _ (by simp) (fun j u hu => ?_) (fun u hu => by simpa using List.all_eq_true.1 (one_bB _) u hu)
    rw [List.getElem?_map, Option.map_eq_some_iff] at hu
    obtain ⟨x, hx, rfl⟩ := hu
    obtain ⟨b', o', cs', T', fr', e1, e2, e3⟩ := hr j x hx
    cases e1
    rw [addr_addO, run_cell (a := ⟨b, o + j, none⟩) (hs _ _ e2) rfl rfl]
    exact e3
theorem freeze_rowB {w0 : World} {I0 : IM} {m : List Nat} {I : IM} {w : World} {H F : List OB} {l : List Bool} {v : Value} {n : Nat} (s : St w0 I0 m I w (H ++ F)) (h : RowH 4 1 v n (l.map Value.bool) F) :
    ∃ I', I.Le I' ∧ BoS I' l v ∧ St w0 I0 m I' w H := by
  have hl : l.length = n := by have := h.1; simpa using this
  rcases h.2 with ⟨rfl, rfl, rfl⟩ | ⟨g, cap, cur, rfl, rfl, hnc, hcm, hcs, ht⟩
  · have : l = [] := List.eq_nil_of_length_eq_zero hl
    subst this
    exact ⟨I, IM.Le.refl I, bos_nil I, by simpa using s⟩
  · have s2 := (s.perm (H' := (g, .cells cur 4) :: H) (by exact List.perm_append_comm))
    refine ⟨_, IM.le_add (s2.free (g, .cells cur 4) (by simp)) _, ?_, s2.freeze⟩
    refine ⟨some ⟨g, 0, none⟩, cap, congrArg (fun q => Value.slice (some ⟨g, 0, none⟩) q cap) hl.symm, by omega, fun j x hj => ⟨g, 0, cur, 4, (0, 0), rfl, IM.add_self _ _ _, ?_⟩⟩
    have hx : (l.map Value.bool)[j]? = some (Value.bool x) := by rw [List.getElem?_map, hj]; rfl
    rw [← ht, List.getElem?_take] at hx
    split at hx
    · have hx' : cur[j]? = some (Value.bool x) := by simpa using hx
      rw [Nat.zero_add]; exact hx'
    · cases hx
def boR (L : List Bool) (v : Value) (J : IM) : Prop := ∃ a c, v = .slice a (List.length L) c ∧ BoS J L (.slice a (List.length L) c)
theorem fun_of_rowBo {f : FuncId} {args : Array Value} {I : IM} {n : Nat} {L : List Bool} (h : FunM Try.prog f args I [] (fun v J F => RowH 4 1 v n (L.map Value.bool) F)) :
    Fun Try.prog f args I (fun v J => boR L v J) := by
  intro w hw
  refine (h w hw (Owns.nil I w)).mono ?_
  rintro en w' ⟨v, I', H', he, s, hr⟩
  obtain ⟨J, le, hb, s2⟩ := freeze_rowB (H := []) s hr
  obtain ⟨a, c, rfl, _, hb⟩ := hb.open
  exact ⟨_, J, [], he, s2, a, c, rfl, hb⟩
theorem row_newB (g : Nat) : RowH 4 1 (.slice (some ⟨g, 0, none⟩) 0 0) 0 (([] : List Bool).map Value.bool) [(g, .cells #[] 4)] :=
  ⟨rfl, .inr ⟨g, 0, #[], rfl, rfl, Nat.le_refl _, by decide, rfl, rfl⟩⟩
theorem row_snocB {v : Value} {k : Nat} {x y : List Bool} {nw : List Value} {F : List OB} (h : RowH 4 1 v k (x.map Value.bool ++ nw) F) (e : nw = y.map Value.bool) : RowH 4 1 v (x ++ y).length ((x ++ y).map Value.bool) F := by
  subst e
  have hk : k = (x ++ y).length := by have := h.1; simp at this ⊢; omega
  subst hk
  rw [List.map_append]; exact h
theorem row_appB {v : Value} {k : Nat} {x y : List Bool} {F : List OB} (h : RowH 4 1 v k (x.map Value.bool ++ y.map Value.bool) F) : RowH 4 1 v (x ++ y).length ((x ++ y).map Value.bool) F := row_snocB h rfl
theorem bos_eq {I : IM} {l l2 : List Bool} {v : Value} (h : BoS I l v) (e : l = l2) : BoS I l2 v := e ▸ h
theorem row_oneB (g : Nat) (x : Bool) : RowH 4 1 (.slice (some ⟨g, 0, none⟩) 1 1) 1 (([x] : List Bool).map Value.bool) [(g, .cells #[.bool x] 4)] :=
  ⟨rfl, .inr ⟨g, 1, _, rfl, rfl, Nat.le_refl _, by decide, rfl, rfl⟩⟩
end Go.Proofs.Ytpnlaeapnokipaa
