/- Append to what is never written, and full; strings as bytes. -/
import Derived.Test.YtpnlaeapnokipaaMB6
import Derived.Laws.IdiomStrings
set_option linter.all false
set_option maxRecDepth 100000
namespace Go.Sep
open Go.RowKit
section
variable {w0 : World} {I0 : IM} {m : List Nat} {I : IM} {P : Program} {Q : Exit → Act → World → Prop}
/-- RULE: append, its outcome shown by hand. -/
theorem append_ruleG {N : Nat} {ops : Array Oper} {ev : Ev} {l : List Oper} {H : List OB} {w : World} (t tx : TypeId) (d : Option Tmp) {v x : Value} {RH : Value → List OB → Prop}
    (hex : ∀ ty, ∃ v' w' F', (Builtin.append_ #[t, tx] ty #[v, x]).run P w = .ok v' w' ∧ St w0 I0 m I w' (H ++ F') ∧ RH v' F')
    (h : appOf N ops ev l = some (t, tx, v, x, d))
    (kk : ∀ v' w' F', St w0 I0 m I w' (H ++ F') → RH v' F' → wpList P ops Q l.tail (ActOf N (putE d v' ev)) w') : wpList P ops Q l (ActOf N ev) w := by
  cases l with
  | nil => simp [appOf] at h
  | cons o l' =>
    simp only [appOf] at h
    split at h
    · rename_i hw
      split at h
      · rename_i args tys hop
        split at h
        · rename_i a b t' tx' ha htys
          simp only [Option.some.injEq, Prod.mk.injEq] at h
          obtain ⟨rfl, rfl, rfl, rfl, rfl⟩ := h
          obtain ⟨v', w', F', hr, s', row'⟩ := hex o.type
          have ha' : args = #[a, b] := by rw [← Array.toArray_toList (xs := args), ha]
          have ht' : tys = #[t', tx'] := by rw [← Array.toArray_toList (xs := tys), htys]
          refine wpList_step fun K hK => ?_
          rw [ActOf_yield, if_pos hw]
          unfold Oper.wp
          rw [ActOf_eval]
          have hrun : (execOp (evalE N ev) o).run P w = .ok (.value v') w' := by
            simp only [execOp, hop, resolve, invoke, builtin, ha', ht', Sem.run_bind, Sem.run_pure, Result.andThen_ok, List.map_toArray, List.map_cons, List.map_nil, hr]
          rw [hrun]
          simp only [Oper.upon]
          refine hK _ _ ?_
          rw [ActOf_put]
          exact kk v' w' F' s' row'
        · cases h
      · cases h
    · cases h
end
end Go.Sep
namespace Go.Proofs.Ytpnlaeapnokipaa
open Go.RowKit Go.Sep
theorem bsl_clip {I : IM} {l : List UInt8} {a : Option Addr} {n c : Nat} (h : BSl I l (.slice a n c)) : BSl I l (.slice a l.length l.length) := by
  have := bsl_to3 h (Nat.le_refl _) (Nat.le_refl _)
  rwa [List.take_length] at this
theorem append_full {w0 : World} {I0 : IM} {m : List Nat} {I : IM} {w : World} {H : List OB} (s : St w0 I0 m I w H) {l : List UInt8} {a : Option Addr} (hb : BSl I l (.slice a l.length l.length)) {tx ty : TypeId} {x : Value} {k : Nat} {news : List Value} (hs : Src Try.prog 1 tx x k news w) (hk : 0 < k) (hsz : l.length + k ≤ 1000000) :
    ∃ v' w' F', (Builtin.append_ #[34, tx] ty #[.slice a l.length l.length, x]).run Try.prog w = .ok v' w' ∧ St w0 I0 m I w' (H ++ F') ∧ RowH 5 1 v' (l.length + k) (l.map bV ++ news) F' := by
  have hold : (Builtin.firstCells 1 l.length (.slice a l.length l.length)).run Try.prog w.drew = .ok (l.map bV).toArray w.drew := by
    have hS : I.Sub w.drew := s.sub
    obtain ⟨a', c', hv, hc, hr⟩ := hb
    cases hv
    cases a with
    | none =>
      have : l = [] := by
        cases l with
        | nil => rfl
        | cons y l => obtain ⟨b, o, cs, T, fr, e, _⟩ := hr 0 y rfl; cases e
      subst this; rfl
    | some z =>
      refine run_firstCells_some w.drew 1 l.length z l.length l.length (l.map bV) (by simp) fun j u hu => ?_
      rw [List.getElem?_map, Option.map_eq_some_iff] at hu
      obtain ⟨y, hy, rfl⟩ := hu
      obtain ⟨b, o, cs, T, fr, e1, e2, e3⟩ := hr j y hy
      cases e1
      rw [addr_addO, run_cell (a := ⟨b, o + j, none⟩) (hS _ _ e2) rfl rfl]
      exact e3
  have hr := run_append_grow_src (P := Try.prog) w 34 tx ty 5 Try.t5 (.int .u8 0) under34 (by kernel_rfl) (by kernel_rfl) a l.length l.length (l.map bV) hold x k news hs (by omega) (by omega) (growslice_fits (by omega) (by show (l.length + k) * 1 ≤ _; omega))
  have hge := grownCap_ge w (l.length + k) l.length 5
  have hcm := grownCap_le_maxLen w (l.length + k) l.length 5 (by simp only [maxLen]; omega)
  have hlen : (l.map bV ++ news).length = (l.length + k) * 1 := by rw [List.length_append, List.length_map, hs.newsLen, Nat.mul_one, Nat.mul_one]
  refine ⟨_, _, [(w.heap.size, .cells ((l.map bV ++ news).toArray ++ Builtin.zeroCells (Value.int .u8 0).cells (grownCap w (l.length + k) l.length 5 - (l.length + k))) 5)], hr, ?_, hlen, .inr ⟨w.heap.size, _, _, rfl, rfl, hge, hcm, ?_, ?_⟩⟩
  · exact s.drew.push (.cells ((l.map bV ++ news).toArray ++ Builtin.zeroCells (Value.int .u8 0).cells (grownCap w (l.length + k) l.length 5 - (l.length + k))) 5)
  · have hz : (Value.int .u8 0).cells.size = 1 := rfl
    simp only [Array.size_append, List.size_toArray, size_zeroCells, hz, hlen]
    omega
  · simp only [Array.toList_append]
    rw [← hlen]
    exact List.take_left
/-- What may be appended to: a row of one's own, or what is never written, and full. -/
def RowA (I : IM) (l : List UInt8) (v : Value) (F : List OB) : Prop := RowH 5 1 v l.length (l.map bV) F ∨ (F = [] ∧ ∃ a, v = .slice a l.length l.length ∧ BSl I l (.slice a l.length l.length))
theorem append_any {w0 : World} {I0 : IM} {m : List Nat} {I : IM} {w : World} {H F : List OB} (s : St w0 I0 m I w (H ++ F)) {l : List UInt8} {v : Value} (hA : RowA I l v F) {tx ty : TypeId} {x : Value} {k : Nat} {news : List Value} (hs : Src Try.prog 1 tx x k news w) (hk : 0 < k) (hsz : l.length + k ≤ 1000000) :
    ∃ v' w' F', (Builtin.append_ #[34, tx] ty #[v, x]).run Try.prog w = .ok v' w' ∧ St w0 I0 m I w' (H ++ F') ∧ RowH 5 1 v' (l.length + k) (l.map bV ++ news) F' := by
  rcases hA with h | ⟨rfl, a, rfl, hb⟩
  · exact append_row s 34 tx ty 5 Try.t5 (.int .u8 0) 1 1 under34 (by kernel_rfl) (by kernel_rfl) (by kernel_rfl) (by kernel_rfl) (by kernel_rfl) (by decide) h hs (by simp only [maxLen]; omega) (by omega)
  · rw [List.append_nil] at s
    exact append_full s hb hs hk hsz
theorem s2b {w0 : World} {I0 : IM} {m : List Nat} {I : IM} {w : World} {H : List OB} (s : St w0 I0 m I w H) (l : List UInt8) :
    ∃ a c I' w', (convert 9 34 (.string ⟨l.toArray⟩)).run Try.prog w = .ok (.slice a l.length c) w' ∧ I.Le I' ∧ St w0 I0 m I' w' H ∧ BSl I' l (.slice a l.length c) := by
  have hr := run_bytes_of_string (P := Try.prog) w 9 34 5 ⟨l.toArray⟩ under9 under34 under5
  have hge := grownCap_ge w (⟨l.toArray⟩ : ByteArray).size 0 5
  have hcell : ∀ j x, l[j]? = some x → (bytesRow ⟨l.toArray⟩ (grownCap w (⟨l.toArray⟩ : ByteArray).size 0 5))[0 + j]? = some (.int .u8 ((x.toNat : Nat) : Int)) := fun j x hj => by
    have hlt : j < l.length := (List.getElem?_eq_some_iff.1 hj).1
    have hx : l[j] = x := (List.getElem?_eq_some_iff.1 hj).2
    simp [bytesRow, Array.getElem?_append, hlt, hx]
  generalize bytesRow ⟨l.toArray⟩ (grownCap w (⟨l.toArray⟩ : ByteArray).size 0 5) = R at hr hcell
  generalize grownCap w (⟨l.toArray⟩ : ByteArray).size 0 5 = C at hr hge
  have s2 := s.drew.push (.cells R 5 (R.size, R.size + 1))
  have s3 : St w0 I0 m I (w.drew.alloc (.cells R 5 (R.size, R.size + 1))) ((w.heap.size, .cells R 5 (R.size, R.size + 1)) :: H) := s2.perm (List.perm_append_comm)
  exact ⟨_, _, _, _, hr, IM.le_add (s3.free (w.heap.size, .cells R 5 (R.size, R.size + 1)) (by simp)) _, s3.freeze, _, _, rfl, hge, fun j x hj => ⟨_, 0, R, 5, (R.size, R.size + 1), rfl, IM.add_self _ _ _, hcell j x hj⟩⟩
end Go.Proofs.Ytpnlaeapnokipaa
