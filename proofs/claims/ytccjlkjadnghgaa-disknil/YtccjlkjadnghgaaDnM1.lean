/- A map of rows of bytes: looked up, put, dropped. -/
import Derived.Test.YtccjlkjadnghgaaDnB6
import Derived.Laws.IdiomStrings
import Derived.Test.YtccjlkjadnghgaaDnS12
import Derived.MapKept
set_option linter.all false
set_option maxRecDepth 100000
namespace Go.Proofs.Ytccjlkjadnghgaa
open Go.RowKit Go.Sep Go.MapKept

/-- A map's entries: numbers, each with a row of bytes. -/
inductive MapH : List (Nat × List UInt8) → List MapEntry → List OB → Prop
  | nil : MapH [] [] []
  | cons {k : Nat} {b : List UInt8} {es : List (Nat × List UInt8)} {e : MapEntry} {l : List MapEntry} {F1 F : List OB} : e.key = .int .u64 ((k : Nat) : Int) → RowH 5 1 e.val b.length (b.map bV) F1 → MapH es l F → MapH ((k, b) :: es) (e :: l) (F1 ++ F)
def mget : List (Nat × List UInt8) → Nat → Option (List UInt8)
  | [], _ => none
  | x :: r, k => if x.1 = k then some x.2 else mget r k
def mput : List (Nat × List UInt8) → Nat → List UInt8 → List (Nat × List UInt8)
  | [], k, b => [(k, b)]
  | x :: r, k, b => if x.1 = k then (x.1, b) :: r else x :: mput r k b
def mdel : List (Nat × List UInt8) → Nat → List (Nat × List UInt8)
  | [], _ => []
  | x :: r, k => if x.1 = k then r else x :: mdel r k
def tot : List (Nat × List UInt8) → Nat
  | [] => 0
  | x :: r => x.2.length + tot r
theorem tot_get : ∀ (es : List (Nat × List UInt8)) (k : Nat), ((mget es k).getD []).length ≤ tot es
  | [], k => by simp [mget]
  | x :: r, k => by
    unfold mget tot
    split
    · simp
    · have := tot_get r k; omega
theorem MapH.push {es : List (Nat × List UInt8)} {l : List MapEntry} {F : List OB} (h : MapH es l F) {k : Nat} {b : List UInt8} {e : MapEntry} {Fe : List OB} (hk : e.key = .int .u64 ((k : Nat) : Int)) (hr : RowH 5 1 e.val b.length (b.map bV) Fe) (hn : mget es k = none) : MapH (mput es k b) (l ++ [e]) (F ++ Fe) := by
  induction h with
  | nil =>
    have := MapH.cons hk hr MapH.nil
    simpa [mput] using this
  | @cons k' b' es e' l F1 F he hr' h ih =>
    unfold mget at hn
    split at hn
    · cases hn
    · rename_i hne
      have := MapH.cons he hr' (ih hn)
      simp only [mput]
      rw [if_neg hne, List.append_assoc]
      exact this
theorem MapH.find {es : List (Nat × List UInt8)} {l : List MapEntry} {F : List OB} (h : MapH es l F) (k : Nat) : ∀ i,
    (Instr.findNow (.int .u64) (.int .u64 ((k : Nat) : Int)) l i = some none ∧ mget es k = none) ∨
    ∃ (j : Nat) (e : MapEntry) (b : List UInt8) (F1 Fe F2 : List OB), Instr.findNow (.int .u64) (.int .u64 ((k : Nat) : Int)) l i = some (some (i + j, e.val)) ∧ l[j]? = some e ∧ e.key = .int .u64 ((k : Nat) : Int) ∧ mget es k = some b ∧ RowH 5 1 e.val b.length (b.map bV) Fe ∧ F = F1 ++ (Fe ++ F2) ∧
      (∀ v b' Fe', RowH 5 1 v b'.length (b'.map bV) Fe' → MapH (mput es k b') (l.modify j fun e => { e with key := .int .u64 ((k : Nat) : Int), val := v }) (F1 ++ (Fe' ++ F2))) ∧ MapH (mdel es k) (l.eraseIdx j) (F1 ++ F2) := by
  induction h with
  | nil => intro i; exact .inl ⟨rfl, rfl⟩
  | @cons k' b' es e' l F1 F he hr' h ih =>
    intro i
    have hsame : Instr.sameNow (.int .u64) (.int .u64 ((k : Nat) : Int)) e'.key = some (decide (k = k')) := by
      rw [he]
      simp only [Instr.sameNow, if_true, Option.some.injEq]
      rw [Bool.eq_iff_iff]
      simp
      omega
    by_cases hkk : k' = k
    · subst hkk
      refine .inr ⟨0, e', b', [], F1, F, by simp [Instr.findNow, hsame], rfl, he, by simp [mget], hr', rfl, fun v b2 Fe' hv => ?_, ?_⟩
      · have := MapH.cons (e := { e' with key := .int .u64 ((k' : Nat) : Int), val := v }) rfl hv h
        simpa [mput] using this
      · simpa [mdel] using h
    · have hd : decide (k = k') = false := decide_eq_false (fun q => hkk q.symm)
      rw [hd] at hsame
      rcases ih (i + 1) with ⟨h1, h2⟩ | ⟨j, e, b, G1, Ge, G2, h1, h2, h3, h4, h5, h6, h7, h8⟩
      · exact .inl ⟨by simp [Instr.findNow, hsame, h1], by simp [mget, hkk, h2]⟩
      · refine .inr ⟨j + 1, e, b, F1 ++ G1, Ge, G2, by simp [Instr.findNow, hsame, h1]; omega, by simpa using h2, h3, by simp [mget, hkk, h4], h5, by rw [h6, List.append_assoc], fun v b2 Fe' hv => ?_, ?_⟩
        · have := MapH.cons he hr' (h7 v b2 Fe' hv)
          simp only [mput]
          rw [if_neg hkk, List.append_assoc]
          simpa using this
        · have := MapH.cons he hr' h8
          simp only [mdel]
          rw [if_neg hkk, List.append_assoc]
          simpa using this

def MapP (es : List (Nat × List UInt8)) (arr : Array MapEntry) (F : List OB) : Prop := ∃ F0, F.Perm F0 ∧ MapH es arr.toList F0
theorem MapP.perm {es : List (Nat × List UInt8)} {arr : Array MapEntry} {F F' : List OB} (h : MapP es arr F) (p : F'.Perm F) : MapP es arr F' := by
  obtain ⟨F0, p0, h0⟩ := h
  exact ⟨F0, p.trans p0, h0⟩
theorem map_empty : MapP [] #[] [] := ⟨[], List.Perm.refl _, MapH.nil⟩
theorem under66 : Try.prog.underlying 66 = some (.map 28 29) := by kernel_rfl
theorem under28 : Try.prog.underlying 28 = some (.int .u64) := by kernel_rfl
theorem zero29 (w : World) : (zeroValue 29).run Try.prog w = .ok (.slice none 0 0) w := by kernel_rfl
def World.setB (w : World) (m : Nat) (o : Obj) : World := { w with heap := w.heap.setIfInBounds m o }
theorem isKey_u (k : Nat) : IsKey (.int .u64) (.int .u64 ((k : Nat) : Int)) := by simp [IsKey]
theorem zero_addj (j : Nat) : 0 + j = j := Nat.zero_add j
theorem modify_arr {arr : Array MapEntry} {j : Nat} {f : MapEntry → MapEntry} : (arr.modify j f).toList = arr.toList.modify j f := by simp
/-- What is found at a number, and what is behind it then. -/
theorem map_open {es : List (Nat × List UInt8)} {arr : Array MapEntry} {F : List OB} (h : MapP es arr F) (m k : Nat) :
    ∃ (v : Value) (Fe Fr : List OB), F.Perm (Fr ++ Fe) ∧ RowH 5 1 v ((mget es k).getD []).length (((mget es k).getD []).map bV) Fe ∧
      (∀ w clk, w.heap[m]? = some (.map arr clk) → (Instr.lookup 66 (.map (some m)) (.int .u64 ((k : Nat) : Int)) false).run Try.prog w = .ok v w) ∧
      (∀ w clk, w.heap[m]? = some (.map arr clk) → (Instr.lookup 66 (.map (some m)) (.int .u64 ((k : Nat) : Int)) true).run Try.prog w = .ok (.tuple #[v, .bool (mget es k).isSome]) w) ∧
      (∀ clk v' (b' : List UInt8) Fe', RowH 5 1 v' b'.length (b'.map bV) Fe' → ∃ arr' clk', MapP (mput es k b') arr' (Fr ++ Fe') ∧
        ∀ w, w.heap[m]? = some (.map arr clk) → (Instr.mapUpdate 66 (.map (some m)) (.int .u64 ((k : Nat) : Int)) v').run Try.prog w = .ok () (World.setB w m (.map arr' clk'))) := by
  obtain ⟨F0, p0, h0⟩ := h
  rcases h0.find k 0 with ⟨h1, h2⟩ | ⟨j, e, b, F1, Fe, F2, h1, h2, h3, h4, h5, h6, h7, h8⟩
  · refine ⟨.slice none 0 0, [], F, by simp, ?_, fun w clk hb => ?_, fun w clk hb => ?_, fun clk v' b' Fe' hr => ⟨arr.push { key := .int .u64 ((k : Nat) : Int), val := v', born := clk }, clk + 1, ⟨F0 ++ Fe', p0.append_right Fe', ?_⟩, fun w hb => ?_⟩⟩
    · rw [h2]; exact row_nilB
    · simp [Instr.lookup, run_underlying under66, Go.MapKept.run_getObj_map hb, run_checkKey under28 (isKey_u k), run_findKey under28 h1, zero29, Result.andThen]
    · simp [Instr.lookup, run_underlying under66, Go.MapKept.run_getObj_map hb, run_checkKey under28 (isKey_u k), run_findKey under28 h1, zero29, Result.andThen, h2]
    · rw [Array.toList_push]
      exact h0.push (e := { key := .int .u64 ((k : Nat) : Int), val := v', born := clk }) rfl hr h2
    · simp [Instr.mapUpdate, run_underlying under66, Go.MapKept.run_getObj_map hb, run_checkKey under28 (isKey_u k), run_findKey under28 h1, Go.MapKept.run_setObj_map _ hb, Result.andThen, World.setB]
  · rw [zero_addj] at h1
    have hj : arr[j]? = some e := by simpa using h2
    have hperm : (F1 ++ (Fe ++ F2)).Perm ((F1 ++ F2) ++ Fe) := by
      rw [List.append_assoc]
      exact List.Perm.append_left F1 List.perm_append_comm
    refine ⟨e.val, Fe, F1 ++ F2, by rw [h6] at p0; exact p0.trans hperm, by rw [h4]; exact h5, fun w clk hb => ?_, fun w clk hb => ?_, fun clk v' b' Fe' hr => ⟨arr.modify j fun e => { e with key := .int .u64 ((k : Nat) : Int), val := v' }, clk, ⟨F1 ++ (Fe' ++ F2), ?_, ?_⟩, fun w hb => ?_⟩⟩
    · simp [Instr.lookup, run_underlying under66, Go.MapKept.run_getObj_map hb, run_checkKey under28 (isKey_u k), run_findKey under28 h1, Result.andThen]
    · simp [Instr.lookup, run_underlying under66, Go.MapKept.run_getObj_map hb, run_checkKey under28 (isKey_u k), run_findKey under28 h1, Result.andThen, h4]
    · rw [List.append_assoc]
      exact List.Perm.append_left F1 List.perm_append_comm
    · rw [modify_arr]; exact h7 v' b' Fe' hr
    · have hks : ∀ w, (Instr.keyThatStays (Value.int .u64 ((k : Nat) : Int)) (Value.int .u64 ((k : Nat) : Int))).run Try.prog w = .ok (.int .u64 ((k : Nat) : Int)) w := fun w => run_keyThatStays (isKey_u k)
      simp [Instr.mapUpdate, run_underlying under66, Go.MapKept.run_getObj_map hb, run_checkKey under28 (isKey_u k), run_findKey under28 h1, hj, h3, hks, Go.MapKept.run_setObj_map _ hb, Result.andThen, World.setB]
/-- The map's block is another one now. -/
theorem St.setB {w0 : World} {I0 : IM} {mm : List Nat} {I : IM} {w : World} {H : List OB} (s : St w0 I0 mm I w H) {i m : Nat} {o o' : Obj} (hi : H[i]? = some (m, o)) : St w0 I0 mm I (World.setB w m o') (H.set i (m, o')) := by
  have hlt := s.lt (List.mem_of_getElem? hi)
  refine Go.Sep.St.set (o' := o') s hi rfl rfl rfl (by simp [World.setB]) (by
    show (w.heap.setIfInBounds m o')[m]? = _
    have : m < w.heap.size := hlt
    simp [this]) (fun q hq => by
    show (w.heap.setIfInBounds m o')[q]? = _
    rw [Array.getElem?_setIfInBounds_ne (fun h => hq h.symm)])
end Go.Proofs.Ytccjlkjadnghgaa
