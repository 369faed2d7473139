/-
  Rows: what is copied into a row of one's own; a row that is longer; append to what is never written.
-/
import Derived.Test.YtcpmjogeafhpnaaDoorRwS10
import Derived.Laws.CopyRow
import Derived.Lib.Overlaps
import Derived.Lib.AppendZerosOnto
set_option linter.all false
set_option maxRecDepth 100000
namespace Go.Sep
open Go.RowKit
theorem run_copy_rowN {P : Program} (w : World) (dT sT ty elem : TypeId) (i : TypeInfo) (hu : P.underlying dT = some (.slice elem)) (hi : P.info? elem = some i) (g o dLen dCap : Nat) (a : Addr) (sLen sCap : Nat) (cur : Array Value) (t : TypeId) (cs : List Value)
    (hg : w.heap[g]? = some (.cells cur t (0, 0))) (hn : cs.length = Nat.min sLen dLen * i.size)
    (hsrc : ∀ (j : Nat) (v : Value), cs[j]? = some v → w.cell? (a.add j) = some v) (hfit : o + cs.length ≤ cur.size) (h1 : ∀ v ∈ cs, v.oneCell' = true) :
    (Builtin.copy_ #[dT, sT] ty #[.slice (some ⟨g, o, none⟩) dLen dCap, .slice (some a) sLen sCap]).run P w =
      .ok (goInt (Nat.min sLen dLen)) (w.setRow g (cur.toList.take o ++ cs ++ cur.toList.drop (o + cs.length)).toArray) := by
  have hl := run_loadCells_list (P := P) w a cs hsrc
  have hst := run_storeCells_at P g o t cs 0 cur w hg (by simpa using hfit) h1
  simp [Builtin.copy_, run_underlying hu, Builtin.lenOf, Builtin.firstCells, sizeOf, typeInfo, hi, ← hn, hl, hst]
theorem RowH.more {e : TypeId} {size g n n' cap : Nat} {xs : List Value} {F : List OB} (h : RowH e size (.slice (some ⟨g, 0, none⟩) n cap) n xs F) (h1 : n ≤ n') (h2 : n' ≤ cap) :
    ∃ zs, zs.length = (n' - n) * size ∧ RowH e size (.slice (some ⟨g, 0, none⟩) n' cap) n' (xs ++ zs) F := by
  rcases h.2 with ⟨h, _⟩ | ⟨g', cap', cur, hv, hF, hnc, hcm, hcs, ht⟩
  · cases h
  · cases hv
    subst hF
    have hle : n * size ≤ n' * size := Nat.mul_le_mul_right _ h1
    have hle2 : n' * size ≤ cap * size := Nat.mul_le_mul_right _ h2
    have e1 : (cur.toList.take (n' * size)) = xs ++ (cur.toList.take (n' * size)).drop (n * size) := by
      rw [← ht]
      conv => lhs; rw [← List.take_append_drop (n * size) (cur.toList.take (n' * size)), List.take_take, Nat.min_eq_left hle]
    refine ⟨(cur.toList.take (n' * size)).drop (n * size), ?_, ?_, .inr ⟨g, cap, cur, rfl, rfl, h2, hcm, hcs, e1⟩⟩
    · rw [List.length_drop, List.length_take, Array.length_toList, hcs, Nat.sub_mul]; omega
    · rw [← e1, List.length_take, Array.length_toList, hcs]; omega
section
variable {w0 : World} {I0 : IM} {m : List Nat} {I : IM} {P : Program} {Q : Exit → Act → World → Prop}
/-- what is copied into a row of one's own: from place o on, k elements -/
theorem copy_row {H F : List OB} {w : World} (s : St w0 I0 m I w (H ++ F)) (dT sT ty e : TypeId) (i : TypeInfo) (size : Nat) (hu : P.underlying dT = some (.slice e)) (hi : P.info? e = some i) (hsize : i.size = size) {g cap n o k dCap sLen sCap : Nat} {a : Addr} {xs cs : List Value}
    (hrow : RowH e size (.slice (some ⟨g, 0, none⟩) n cap) n xs F) (hcs : cs.length = k * size) (hmin : Nat.min sLen (n - o) = k) (hon : o + k ≤ n)
    (hsrc : ∀ (j : Nat) (v : Value), cs[j]? = some v → w.cell? (a.add j) = some v) (h1 : ∀ v ∈ cs, v.oneCell' = true) :
    ∃ w' F', (Builtin.copy_ #[dT, sT] ty #[.slice (some ⟨g, o * size, none⟩) (n - o) dCap, .slice (some a) sLen sCap]).run P w = .ok (goInt k) w' ∧ St w0 I0 m I w' (H ++ F') ∧
      RowH e size (.slice (some ⟨g, 0, none⟩) n cap) n (xs.take (o * size) ++ cs ++ xs.drop ((o + k) * size)) F' := by
  subst hsize
  have hxl := hrow.1
  rcases hrow.2 with ⟨h, _⟩ | ⟨g', cap', cur, hv, hF, hnc, hcm, hcur, ht⟩
  · cases h
  · cases hv
    subst hF
    have hg : w.heap[g]? = some (.cells cur e (0, 0)) := s.own (g, _) (by simp)
    have hle : (o + k) * i.size ≤ n * i.size := Nat.mul_le_mul_right _ hon
    have hle2 : n * i.size ≤ cap * i.size := Nat.mul_le_mul_right _ hnc
    have hok : (o + k) * i.size = o * i.size + k * i.size := Nat.add_mul _ _ _
    have hr := run_copy_rowN (P := P) w dT sT ty e i hu hi g (o * i.size) (n - o) dCap a sLen sCap cur e cs hg (by rw [hmin, hcs]) hsrc (by rw [hcs, hcur]; omega) h1
    rw [hmin] at hr
    have hHF : (H ++ [(g, Obj.cells cur e (0, 0))])[H.length]? = some (g, .cells cur e (0, 0)) := by simp
    have s2 := St.set (w' := w.setRow g (cur.toList.take (o * i.size) ++ cs ++ cur.toList.drop (o * i.size + cs.length)).toArray) s hHF rfl rfl rfl (by simp [World.setRow]) (setRow_heap w g cur _ e _ hg) (fun q hq => setRow_other w g q _ hq)
    rw [List.set_append_right _ _ (Nat.le_refl _)] at s2
    simp only [Nat.sub_self, List.set_cons_zero] at s2
    refine ⟨_, _, hr, s2, ?_, .inr ⟨g, cap, _, rfl, rfl, hnc, hcm, ?_, ?_⟩⟩
    · simp only [List.length_append, List.length_take, List.length_drop, hcs, hxl]; omega
    · simp only [List.size_toArray, List.length_append, List.length_take, List.length_drop, Array.length_toList, hcs, hcur]; omega
    · have hl1 : (cur.toList.take (o * i.size) ++ cs).length = (o + k) * i.size := by
        rw [List.length_append, List.length_take, Array.length_toList, hcur, hcs]; omega
      rw [List.take_append, hl1, List.take_of_length_le (by rw [hl1]; exact hle), hcs, ← hok, ← ht, List.take_take, Nat.min_eq_left (by omega), List.drop_take]
/-- append of zero values to what is never written, without room: a new row -/
theorem append_frozZ {H : List OB} {w : World} (s : St w0 I0 m I w (H ++ [])) (t tn ty e : TypeId) (i : TypeInfo) (z : Value) (size bytes : Nat) (kq kn : IntKind) (ht : P.underlying t = some (.slice e)) (htn : P.underlying tn = some (.int kn)) (hi : P.info? e = some i) (hz : i.zero = some z)
    (hsize : i.size = size) (hby : i.bytes = bytes) (hzs : z.cells.size = size) (hsz : 0 < size)
    {g n cap k : Nat} {cur : Array Value} {xs : List Value} (hI : I g = some (.cells cur e)) (hxl : xs.length = n * size) (hx : ∀ (j : Nat) (u : Value), xs[j]? = some u → cur[j]? = some u) (hk : 0 < k) (hroom : cap < n + k) (hnc : n ≤ cap) (h63 : n + k ≤ maxLen) (hbytes : (n + k) * bytes ≤ 140737488355328) :
    ∃ g' cap' w' F', (Builtin.append_ #[t, tn] ty #[.slice (some ⟨g, 0, none⟩) n cap, .int kq ((k : Nat) : Int)]).run P w = .ok (.slice (some ⟨g', 0, none⟩) (n + k) cap') w' ∧ St w0 I0 m I w' (H ++ F') ∧ RowH e size (.slice (some ⟨g', 0, none⟩) (n + k) cap') (n + k) (xs ++ (Builtin.zeroCells z.cells k).toList) F' := by
  subst hsize
  subst hby
  have hsmall : ((n + k : Nat) : Int) ≤ 9223372036854775807 := by simp only [maxLen] at h63; omega
  have hg : w.heap[g]? = some (.cells cur e (0, 0)) := s.sub _ _ hI
  have holds : (Builtin.firstCells i.size n (.slice (some ⟨g, 0, none⟩) n cap)).run P w.drew = .ok xs.toArray w.drew := by
    refine run_firstCells_some w.drew i.size n ⟨g, 0, none⟩ n cap xs hxl fun j u hu => ?_
    have hadd : (⟨g, 0, none⟩ : Addr).add j = ⟨g, j, none⟩ := by unfold Addr.add; split <;> simp_all
    rw [hadd]
    have : w.drew.cell? ⟨g, j, none⟩ = cur[j]? := run_cell (w := w.drew) (b := g) hg rfl rfl
    rw [this]; exact hx j u hu
  have hkb : k * i.bytes ≤ (n + k) * i.bytes := Nat.mul_le_mul_right _ (by omega)
  have hr := Go.Lib.run_append_grow_zeros (P := P) w t tn ty e i z kq kn ht htn hi hz (some ⟨g, 0, none⟩) n cap xs holds k hk hsz hroom hsmall (by omega) (growslice_fits (by omega) hbytes)
  have hge := grownCap_ge w (n + k) cap e
  have hcm := grownCap_le_maxLen w (n + k) cap e h63
  have hlz : (Builtin.zeroCells z.cells k).toList.length = k * i.size := by rw [Array.length_toList, size_zeroCells, hzs]
  have hlen : (xs ++ (Builtin.zeroCells z.cells k).toList).length = (n + k) * i.size := by rw [List.length_append, hxl, hlz, Nat.add_mul]
  refine ⟨_, _, _, [(w.heap.size, .cells (xs.toArray ++ Builtin.zeroCells z.cells k ++ Builtin.zeroCells z.cells (grownCap w (n + k) cap e - (n + k))) e)], hr, ?_, hlen, .inr ⟨w.heap.size, _, _, rfl, rfl, hge, hcm, ?_, ?_⟩⟩
  · have s2 := (s.drop (List.sublist_append_left H [])).drew.push (.cells (xs.toArray ++ Builtin.zeroCells z.cells k ++ Builtin.zeroCells z.cells (grownCap w (n + k) cap e - (n + k))) e)
    exact s2
  · simp only [Array.size_append, List.size_toArray, size_zeroCells, hzs, hxl, ← Nat.add_mul]
    congr 1
    omega
  · simp only [Array.toList_append]
    rw [← hlen]
    exact List.take_left
/-- RULE: an operation whose outcome is shown by hand, whatever it is -/
theorem semN_rule {N : Nat} {ops : Array Oper} {ev : Ev} {l : List Oper} {w w' : World} (s0 : Sem Next) (d : Option Tmp) (v : Value)
    (h : semOf N ops ev l = some (s0, d)) (hr : s0.run P w = .ok (.value v) w') (k : wpList P ops Q l.tail (ActOf N (putE d v ev)) w') : wpList P ops Q l (ActOf N ev) w := by
  cases l with
  | nil => simp [semOf] at h
  | cons o l' =>
    simp only [semOf] at h
    split at h
    · rename_i hw
      simp only [Option.some.injEq, Prod.mk.injEq] at h
      obtain ⟨h1, rfl⟩ := h
      refine wpList_step fun K hK => ?_
      rw [ActOf_yield, if_pos hw]
      unfold Oper.wp
      rw [ActOf_eval, h1, hr]
      simp only [Oper.upon]
      refine hK _ _ ?_
      rw [ActOf_put]; exact k
    · cases h
end
end Go.Sep
