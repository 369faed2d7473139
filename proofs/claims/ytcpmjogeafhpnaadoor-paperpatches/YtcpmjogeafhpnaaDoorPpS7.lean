/-
  Rows: slices in blocks of one's own; append.
-/
import Derived.Test.YtcpmjogeafhpnaaDoorPpS6
import Derived.Deep.AppendSrc
set_option linter.all false
namespace Go.Sep
open Go.RowKit

/-- v is a slice of n elements, its cells xs, over the blocks F: none, or one. -/
def RowH (e : TypeId) (size : Nat) (v : Value) (n : Nat) (xs : List Value) (F : List OB) : Prop :=
  xs.length = n * size ∧ ((v = .slice none 0 0 ∧ n = 0 ∧ F = []) ∨
    ∃ g cap cur, v = .slice (some ⟨g, 0, none⟩) n cap ∧ F = [(g, .cells cur e)] ∧ n ≤ cap ∧ cap ≤ maxLen ∧ cur.size = cap * size ∧ cur.toList.take (n * size) = xs)
theorem RowH.nil (e : TypeId) (size : Nat) : RowH e size (.slice none 0 0) 0 [] [] := ⟨by simp, .inl ⟨rfl, rfl, rfl⟩⟩
theorem RowH.len {e : TypeId} {size : Nat} {v : Value} {n : Nat} {xs : List Value} {F : List OB} (h : RowH e size v n xs F) : xs.length = n * size := h.1

theorem run_append_room_row {P : Program} (w : World) (t tx ty e : TypeId) (i : TypeInfo) (ht : P.underlying t = some (.slice e)) (hi : P.info? e = some i) (g sLen sCap : Nat) (cur : Array Value) (hg : w.heap[g]? = some (.cells cur e (0, 0))) (x : Value) (n : Nat) (news : List Value) (hs : Src P i.size tx x n news w)
    (hroom : sLen + n ≤ sCap) (hfit : sLen * i.size + news.length ≤ cur.size) :
    (Builtin.append_ #[t, tx] ty #[.slice (some ⟨g, 0, none⟩) sLen sCap, x]).run P w = .ok (.slice (some ⟨g, 0, none⟩) (sLen + n) sCap) (w.setRow g (cur.toList.take (sLen * i.size) ++ news ++ cur.toList.drop (sLen * i.size + news.length)).toArray) := by
  have hst := run_storeCells_at P g (sLen * i.size) e news 0 cur w hg (by simpa using hfit) hs.one
  simp only [Nat.add_zero] at hst
  rcases hs.kind with ⟨e', hk⟩ | hk <;> simp [Builtin.append_, run_underlying ht, run_underlying hk, sizeOf, typeInfo, hi, hs.len, hroom, hs.cells, Addr.add_lit, hst]

section
variable {w0 : World} {I0 : IM} {m : List Nat} {I : IM} {P : Program} {Q : Exit → Act → World → Prop}
theorem append_row {H F : List OB} {w : World} (s : St w0 I0 m I w (H ++ F)) (t tx ty e : TypeId) (i : TypeInfo) (z : Value) (size bytes : Nat) (ht : P.underlying t = some (.slice e)) (hi : P.info? e = some i) (hz : i.zero = some z)
    (hsize : i.size = size) (hby : i.bytes = bytes) (hzs : z.cells.size = size) (hsz : 0 < size)
    {v : Value} {n : Nat} {xs : List Value} (hrow : RowH e size v n xs F) {x : Value} {k : Nat} {news : List Value} (hs : Src P size tx x k news w) (h63 : n + k ≤ maxLen) (hbytes : (n + k) * bytes ≤ 140737488355328) :
    ∃ v' w' F', (Builtin.append_ #[t, tx] ty #[v, x]).run P w = .ok v' w' ∧ St w0 I0 m I w' (H ++ F') ∧ RowH e size v' (n + k) (xs ++ news) F' := by
  subst hsize
  subst hby
  have hsmall : ((n + k : Nat) : Int) ≤ 9223372036854775807 := by simp only [maxLen] at h63; omega
  have hlen : (xs ++ news).length = (n + k) * i.size := by rw [List.length_append, hrow.1, hs.newsLen, Nat.add_mul]
  have grown : ∀ (old : Nat), old < n + k → ∀ (F1 : List OB), St w0 I0 m I w (H ++ F1) →
      (Builtin.append_ #[t, tx] ty #[v, x]).run P w = .ok (.slice (some ⟨w.heap.size, 0, none⟩) (n + k) (grownCap w (n + k) old e)) (w.drew.alloc (.cells ((xs ++ news).toArray ++ Builtin.zeroCells z.cells (grownCap w (n + k) old e - (n + k))) e)) →
      ∃ v' w' F', (Builtin.append_ #[t, tx] ty #[v, x]).run P w = .ok v' w' ∧ St w0 I0 m I w' (H ++ F') ∧ RowH e i.size v' (n + k) (xs ++ news) F' := by
    intro old ho F1 s1 hr
    have hge := grownCap_ge w (n + k) old e
    have hcm := grownCap_le_maxLen w (n + k) old e h63
    refine ⟨_, _, [(w.heap.size, .cells ((xs ++ news).toArray ++ Builtin.zeroCells z.cells (grownCap w (n + k) old e - (n + k))) e)], hr, ?_, hlen, .inr ⟨w.heap.size, _, _, rfl, rfl, hge, hcm, ?_, ?_⟩⟩
    · have s2 := (s1.drop (List.sublist_append_left H F1)).drew.push (.cells ((xs ++ news).toArray ++ Builtin.zeroCells z.cells (grownCap w (n + k) old e - (n + k))) e)
      exact s2
    · simp only [Array.size_append, List.size_toArray, size_zeroCells, hzs, hlen, ← Nat.add_mul]
      congr 1
      omega
    · simp only [Array.toList_append]
      rw [← hlen]
      exact List.take_left
  rcases hrow.2 with ⟨rfl, rfl, rfl⟩ | ⟨g, cap, cur, rfl, rfl, hnc, hcm, hcs, htake⟩
  · have hx : xs = [] := List.eq_nil_of_length_eq_zero (by simpa using hrow.1)
    subst hx
    by_cases hk0 : k = 0
    · subst hk0
      have hn : news = [] := List.eq_nil_of_length_eq_zero (by simpa using hs.newsLen)
      subst hn
      refine ⟨.slice none 0 0, w, [], ?_, s, RowH.nil e i.size⟩
      rcases hs.kind with ⟨e', hk⟩ | hk <;> simp [Builtin.append_, run_underlying ht, run_underlying hk, sizeOf, typeInfo, hi, hs.len, hs.cells]
    · have hold : (Builtin.firstCells i.size 0 (.slice none 0 0)).run P w.drew = .ok ([] : List Value).toArray w.drew := rfl
      refine grown 0 (by omega) [] s ?_
      have hr := run_append_grow_src (P := P) w t tx ty e i z ht hi hz none 0 0 [] hold x k news hs (by omega) hsmall (growslice_fits (by omega) hbytes)
      exact hr
  · have hg : w.heap[g]? = some (.cells cur e (0, 0)) := s.own (g, _) (by simp)
    by_cases hroom : n + k ≤ cap
    · have hfit : n * i.size + news.length ≤ cur.size := by rw [hs.newsLen, hcs, ← Nat.add_mul]; exact Nat.mul_le_mul_right _ hroom
      have hr := run_append_room_row (P := P) w t tx ty e i ht hi g n cap cur hg x k news hs hroom hfit
      have hHF : (H ++ [(g, Obj.cells cur e (0, 0))])[H.length]? = some (g, .cells cur e (0, 0)) := by simp
      have s2 := St.set (w' := w.setRow g (cur.toList.take (n * i.size) ++ news ++ cur.toList.drop (n * i.size + news.length)).toArray) s hHF rfl rfl rfl (by simp [World.setRow]) (setRow_heap w g cur _ e _ hg) (fun q hq => setRow_other w g q _ hq)
      rw [List.set_append_right _ _ (Nat.le_refl _)] at s2
      simp only [Nat.sub_self, List.set_cons_zero] at s2
      refine ⟨_, _, _, hr, s2, hlen, .inr ⟨g, cap, _, rfl, rfl, hroom, hcm, ?_, ?_⟩⟩
      · simp only [List.size_toArray, List.length_append, List.length_take, List.length_drop, Array.length_toList]
        omega
      · rw [htake, ← hlen]
        exact List.take_left
    · have holds : (Builtin.firstCells i.size n (.slice (some ⟨g, 0, none⟩) n cap)).run P w.drew = .ok xs.toArray w.drew := by
        refine run_firstCells_some w.drew i.size n ⟨g, 0, none⟩ n cap xs hrow.1 fun j u hu => ?_
        have hadd : (⟨g, 0, none⟩ : Addr).add j = ⟨g, j, none⟩ := by unfold Addr.add; split <;> simp_all
        rw [hadd]
        rw [← htake, List.getElem?_take] at hu
        split at hu
        · have : w.drew.cell? ⟨g, j, none⟩ = cur[j]? := run_cell (w := w.drew) (b := g) hg rfl rfl
          rw [this]; simpa using hu
        · cases hu
      refine grown cap (by omega) _ s ?_
      exact run_append_grow_src (P := P) w t tx ty e i z ht hi hz (some ⟨g, 0, none⟩) n cap xs holds x k news hs (by omega) hsmall (growslice_fits (by omega) hbytes)

theorem src_own {H F : List OB} {w : World} (s : St w0 I0 m I w (H ++ F)) (q b : Nat) (cur : Array Value) (e tx e' : TypeId) (n c size : Nat) (news : List Value) (hq : H[q]? = some (b, .cells cur e)) (hk : P.underlying tx = some (.slice e'))
    (hn : cur.toList.take (n * size) = news) (hl : news.length = n * size) (h1 : news.all (·.oneCell') = true) : Src P size tx (.slice (some ⟨b, 0, none⟩) n c) n news w := by
  have hb : w.heap[b]? = some (.cells cur e (0, 0)) := s.own (b, _) (by simp [List.mem_of_getElem? hq])
  refine Src.ofSlice w hk ⟨b, 0, none⟩ n c news hl (fun j u hu => ?_) (fun u hu => by simpa using List.all_eq_true.1 h1 u hu)
  have hadd : (⟨b, 0, none⟩ : Addr).add j = ⟨b, j, none⟩ := by unfold Addr.add; split <;> simp_all
  rw [hadd, run_cell (a := ⟨b, j, none⟩) hb rfl rfl]
  rw [← hn, List.getElem?_take] at hu
  split at hu
  · simpa using hu
  · cases hu

def appOf (N : Nat) (ops : Array Oper) (ev : Ev) : List Oper → Option (TypeId × TypeId × Value × Value × Option Tmp)
  | [] => none
  | o :: _ => match Region.wanted o (yieldE N ops ev) with
    | true => match o.op with
      | .call ⟨.builtin .append, args, tys⟩ => match args.toList, tys.toList with
        | [a, b], [t, tx] => some (t, tx, evalE N ev a, evalE N ev b, o.dst)
        | _, _ => none
      | _ => none
    | false => none
/-- RULE: append to a row of one's own. -/
theorem append_rule {N : Nat} {ops : Array Oper} {ev : Ev} {l : List Oper} {H F : List OB} {w : World} (t tx e : TypeId) (i : TypeInfo) (z : Value) (size bytes : Nat) (d : Option Tmp) {v x : Value} {n k : Nat} {xs news : List Value}
    (s : St w0 I0 m I w (H ++ F)) (ht : P.underlying t = some (.slice e)) (hi : P.info? e = some i) (hz : i.zero = some z)
    (hsize : i.size = size) (hby : i.bytes = bytes) (hzs : z.cells.size = size) (hsz : 0 < size) (hrow : RowH e size v n xs F) (hs : Src P size tx x k news w) (h63 : n + k ≤ maxLen) (hbytes : (n + k) * bytes ≤ 140737488355328)
    (h : appOf N ops ev l = some (t, tx, v, x, d))
    (kk : ∀ v' w' F', St w0 I0 m I w' (H ++ F') → RowH e size v' (n + k) (xs ++ news) F' → wpList P ops Q l.tail (ActOf N (putE d v' ev)) w') : wpList P ops Q l (ActOf N ev) w := by
  cases l with
  | nil => simp [appOf] at h
  | cons o l' =>
    simp only [appOf] at h
    split at h
    · rename_i hw
      split at h
      · rename_i args tys hop
        split at h
        · rename_i a b t' tx' ha htys
          simp only [Option.some.injEq, Prod.mk.injEq] at h
          obtain ⟨rfl, rfl, rfl, rfl, rfl⟩ := h
          obtain ⟨v', w', F', hr, s', row'⟩ := append_row s t' tx' o.type e i z size bytes ht hi hz hsize hby hzs hsz hrow hs h63 hbytes
          have ha' : args = #[a, b] := by rw [← Array.toArray_toList (xs := args), ha]
          have ht' : tys = #[t', tx'] := by rw [← Array.toArray_toList (xs := tys), htys]
          refine wpList_step fun K hK => ?_
          rw [ActOf_yield, if_pos hw]
          unfold Oper.wp
          rw [ActOf_eval]
          have hrun : (execOp (evalE N ev) o).run P w = .ok (.value v') w' := by
            simp only [execOp, hop, resolve, invoke, builtin, ha', ht', Sem.run_bind, Sem.run_pure, Result.andThen_ok, List.map_toArray, List.map_cons, List.map_nil, hr]
          rw [hrun]
          simp only [Oper.upon]
          refine hK _ _ ?_
          rw [ActOf_put]
          exact kk v' w' F' s' row'
        · cases h
      · cases h
    · cases h
end
end Go.Sep
