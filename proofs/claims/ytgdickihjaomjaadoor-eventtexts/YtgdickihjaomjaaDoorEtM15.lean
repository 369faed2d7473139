/- Numbers as decimal digits, behind a row: strconv.AppendUint to the base 10. -/
import Derived.Test.YtgdickihjaomjaaDoorEtS8
import Derived.Test.YtgdickihjaomjaaDoorEtShelf
import Derived.Lib.ItoaLen
import Derived.Lib.ItoaMem
import Derived.Test.YtgdickihjaomjaaDoorEtE3
import Derived.Laws.BytesString
import Derived.Test.YtgdickihjaomjaaDoorProg
import Derived.Test.YtgdickihjaomjaaDoorEtS9
set_option linter.all false
set_option maxRecDepth 100000
namespace Go.Proofs.YtgdickihjaomjaaDoor
open Go.RowKit Go.Sep Go.Sort Go.Lib

def Tab (I : IM) : Prop := ∀ w, I.Sub w → Lib.TabIs Tryd.prog w "internal/strconv.uint64pow10" .u64 Lib.pow10Tab
theorem Tab.mono {I J : IM} (le : I.Le J) (h : Tab I) : Tab J := fun w hw => h w (fun k o e => hw k o (le k o e))
abbrev bcs (l : List UInt8) : List Value := Lib.byteCells l
theorem small_c {I : IM} {i : Nat} (h : i < 100) : Fun Tryd.prog 125 #[.int .i64 ((i : Nat) : Int)] I (fun v _ => v = .string ⟨(Lib.decDigits i).toArray⟩) := fun w hw =>
  (Tryd.internal_strconv_small i h w).mono fun e w' ⟨he, hw'⟩ => by subst he; subst hw'; exact ⟨_, I, [], rfl, St.start hw, rfl⟩
theorem numDigits_c {I : IM} {u : Nat} (hT : Tab I) (h1 : 1 ≤ u) (h2 : u < 18446744073709551616) : Fun Tryd.prog 126 #[.int .u64 ((u : Nat) : Int)] I (fun v _ => v = .int .i64 ((Lib.nDigits u : Nat) : Int)) := fun w hw =>
  (Tryd.internal_strconv_numDigits u h1 h2 w (hT w hw)).mono fun e w' ⟨he, hw'⟩ => by subst he; subst hw'; exact ⟨_, I, [], rfl, St.start hw, rfl⟩
def Z20 : Array Value := #[.int .u8 0, .int .u8 0, .int .u8 0, .int .u8 0, .int .u8 0, .int .u8 0, .int .u8 0, .int .u8 0, .int .u8 0, .int .u8 0, .int .u8 0, .int .u8 0, .int .u8 0, .int .u8 0, .int .u8 0, .int .u8 0, .int .u8 0, .int .u8 0, .int .u8 0, .int .u8 0, .int .u8 0, .int .u8 0, .int .u8 0, .int .u8 0]
theorem st_drewN {w0 : World} {I0 : IM} {m : List Nat} {I : IM} {H : List OB} : ∀ {n : Nat} {w : World}, St w0 I0 m I w H → St w0 I0 m I (w.drewN n) H
  | 0, w, s => by simpa [World.drewN] using s
  | n + 1, w, s => ⟨s.sub, s.le, s.new, ⟨s.fr.os, s.fr.tape, s.fr.output, s.fr.size, s.fr.block⟩, s.own, s.free, s.fresh, s.nodup⟩
theorem format_c {I : IM} {b u : Nat} (h2 : u < 18446744073709551616) : FunM Tryd.prog 127 #[.slice (some ⟨b, 0, none⟩) (Lib.nDigits u) 24, .int .u64 ((u : Nat) : Int)] I [(b, .cells Z20 171)]
    (fun v J F' => v = .tuple #[] ∧ ∃ cur : Array Value, F' = [(b, .cells cur 171)] ∧ cur.size = 24 ∧ cur.toList.take (Lib.nDigits u * 1) = bcs (Lib.decDigits u)) := by
  intro w hI ho
  have hb : w.heap[b]? = some (.cells Z20 171 (0, 0)) := ho.own (b, _) (by simp)
  have hn := Lib.nDigits_le20 u h2
  have hsz : (Array.replicate (Lib.nDigits u) (0 : UInt8)).size = Lib.nDigits u := by simp
  have hH : Holds (fun (x : UInt8) => Value.int .u8 (x.toNat : Int)) w b 0 (Array.replicate (Lib.nDigits u) (0 : UInt8)) := fun j hj => by
    have hj' : j < 24 := by simp at hj; omega
    have e1 : (Array.replicate (Lib.nDigits u) (0 : UInt8))[j]! = 0 := by simp at hj; simp [hj]
    refine ⟨?_, (Sep.run_frozen (a := ⟨b, 0 + j, none⟩) hb rfl).trans (by simp)⟩
    rw [run_cell (a := ⟨b, 0 + j, none⟩) hb rfl rfl, e1]
    have : ∀ j, j < 24 → Z20[j]? = some (Value.int .u8 ((0 : UInt8).toNat : Int)) := by
      intro j hj
      match j, hj with
      | 0, _ => rfl
      | 1, _ => rfl
      | 2, _ => rfl
      | 3, _ => rfl
      | 4, _ => rfl
      | 5, _ => rfl
      | 6, _ => rfl
      | 7, _ => rfl
      | 8, _ => rfl
      | 9, _ => rfl
      | 10, _ => rfl
      | 11, _ => rfl
      | 12, _ => rfl
      | 13, _ => rfl
      | 14, _ => rfl
      | 15, _ => rfl
      | 16, _ => rfl
      | 17, _ => rfl
      | 18, _ => rfl
      | 19, _ => rfl
      | 20, _ => rfl
      | 21, _ => rfl
      | 22, _ => rfl
      | 23, _ => rfl
      | j + 24, h => omega
    simpa using this j hj'
  have hc := Tryd.internal_strconv_formatBase10 b 0 24 u (Array.replicate (Lib.nDigits u) (0 : UInt8)) w hH (by rw [hsz]; exact Lib.lt_pow_nDigits u) h2 (by rw [hsz]; omega)
  rw [hsz] at hc
  refine hc.mono ?_
  rintro e w' ⟨rfl, n, v', dk, rfl, hF⟩
  have s0 := St.startM hI ho
  have hdk : dk.size = Lib.nDigits u := hF.size
  have s1 : St w I [b] I (putRow (fun (x : UInt8) => Value.int .u8 (x.toNat : Int)) w b 0 dk) [(b, .cells (putCells (fun (x : UInt8) => Value.int .u8 (x.toNat : Int)) 0 dk Z20) 171)] := by
    have := St.set (i := 0) (k := b) (o' := .cells (putCells (fun (x : UInt8) => Value.int .u8 (x.toNat : Int)) 0 dk Z20) 171) (w' := putRow (fun (x : UInt8) => Value.int .u8 (x.toNat : Int)) w b 0 dk) s0 rfl rfl rfl rfl (by simp) (by
      show (w.heap.modify b _)[b]? = _
      rw [Array.getElem?_modify]; simp [hb]; rfl) (fun q hq => by
      simp only [putRow, mapBlock, Array.getElem?_modify]; rw [if_neg (fun h => hq h.symm)])
    exact this
  refine ⟨_, I, _, rfl, st_drewN s1, rfl, _, rfl, by simp only [putCells, Array.size_mapIdx]; rfl, ?_⟩
  rw [Nat.mul_one]
  apply List.ext_getElem?
  intro j
  rw [List.getElem?_take]
  split
  · rename_i hj
    have hl : j < (Lib.decDigits u).length := by rw [Lib.decDigits_length]; exact hj
    have := Lib.row_is_numeral hF j hl
    have hz : j < Z20.size := by have : Z20.size = 24 := rfl; omega
    simp only [putCells, Array.getElem?_toList, Array.getElem?_mapIdx, Lib.byteCells, List.getElem?_map, List.getElem?_eq_getElem hl, Option.map_some, this]
    rw [Array.getElem?_eq_getElem hz]
    simp [hdk, hj]
  · rename_i hj
    rw [List.getElem?_eq_none]
    rw [Lib.byteCells_length, Lib.decDigits_length]; omega
theorem one_bcs (l : List UInt8) : (bcs l).all (·.oneCell') = true := by simp [Lib.byteCells, Value.oneCell']

set_option maxHeartbeats 1000000 in
theorem appendUint0_c {I : IM} {u n : Nat} {v : Value} {xs : List Value} {F : List OB} (hT : Tab I) (hu : u < 18446744073709551616) (hrow : RowH 5 1 v n xs F) (hlim : n + 20 ≤ 140737488355328) : FunM Tryd.prog 118 #[v, .int .u64 ((u : Nat) : Int), .int .i64 10] I F (fun v' J F' => RowH 5 1 v' (n + (Lib.decDigits u).length) (xs ++ bcs (Lib.decDigits u)) F') := by
  have hnd := Lib.decDigits_length u
  have hn20 := Lib.nDigits_le20 u hu
  have hsz0 : (⟨(Lib.decDigits u).toArray⟩ : ByteArray).size = Lib.nDigits u := by rw [← hnd]; rfl
  refine enterM_rule 36 [(0, v), (1, .int .u64 ((u : Nat) : Int)), (2, .int .i64 10)] Tryd.func118 rfl (by kernel_rfl) ?_
  intro w s
  refine wp_seq ?_
  refine region_rule ?_
  refine ops_rule (C := []) [] F 1 [] 0 (fun φ1 => [(6, .slice none 0 0)]) (fun φ1 => []) (fun φ1 => []) s trivial (fun φ1 => by kernel_rfl) ?_
  intro φ1 w1 s
  refine ops_done (by kernel_rfl) ?_
  refine wp_seq ?_
  refine wp_seq ?_
  refine region_rule ?_
  refine ops_rule (C := []) [] F 2 [] 0 (fun φ2 => [(10, .bool true), (9, .int .i64 10)]) (fun φ2 => []) (fun φ2 => []) s trivial (fun φ2 => by kernel_rfl) ?_
  intro φ2 w2 s
  refine ops_done (by kernel_rfl) ?_
  refine cond_true_rule (b := true) (by kernel_rfl) rfl ?_
  refine wp_seq ?_
  refine wp_seq ?_
  refine region_rule ?_
  refine ops_rule (C := []) [] F 2 [] 0 (fun φ3 => [(12, .bool (decide (((u : Nat) : Int) < ((100 : Nat) : Int)))), (11, .int .u64 ((u : Nat) : Int))]) (fun φ3 => []) (fun φ3 => []) s trivial (fun φ3 => by kernel_rfl) ?_
  intro φ3 w3 s
  rw [nat_lss (a := u) (b := 100)]
  refine ops_done (by kernel_rfl) ?_
  rcases Bool.eq_false_or_eq_true (decide (u < 100)) with hc4 | hc4
  ·
    rw [hc4]
    refine cond_true_rule (b := true) (by kernel_rfl) rfl ?_
    refine wp_seq ?_
    refine region_rule ?_
    refine ops_rule (C := []) [] F 3 [] 0 (fun φ5 => [(15, .int .i64 (IntKind.wrap .i64 ((u : Nat) : Int))), (14, .int .u64 ((u : Nat) : Int)), (13, v)]) (fun φ5 => []) (fun φ5 => []) s trivial (fun φ5 => by kernel_rfl) ?_
    intro φ5 w5 s
    rw [nat_wrapI (a := u) (by have := of_decide_eq_true hc4; omega)]
    refine call_rule (some 16) s (small_c (i := u) (of_decide_eq_true hc4)) (by kernel_rfl) ?_
    intro v6 I6 w6 le6 h6 s
    replace hT := Tab.mono le6 hT
    obtain rfl := h6
    refine append_rule (H := []) (F := F) 22 9 5 Tryd.t5 (.int .u8 0) 1 1 (some 17) s Tryd.underlying22 (by kernel_rfl) (by kernel_rfl) (by kernel_rfl) (by kernel_rfl) (by kernel_rfl) (by decide) hrow (Src.ofString w6 Tryd.underlying9 ⟨(Lib.decDigits u).toArray⟩) (by simp only [maxLen]; omega) (by omega) (by kernel_rfl) ?_
    intro v7 w7 F7 s h7
    refine ops_rule (C := []) [] F7 1 [] 0 (fun φ8 => [(6, v7)]) (fun φ8 => []) (fun φ8 => []) s trivial (fun φ8 => by kernel_rfl) ?_
    intro φ8 w8 s
    refine ops_done (by kernel_rfl) ?_
    refine wp_ret ?_
    refine ret_rule (C := []) [] F7 (v7) [] [] s trivial (by kernel_rfl) ?_
    replace s := s.drop (List.sublist_append_right [] F7)
    exact ⟨_, _, _, rfl, s, (by rw [show n + (⟨(Lib.decDigits u).toArray⟩ : ByteArray).size = n + (Lib.decDigits u).length from rfl, show Go.byteCells ⟨(Lib.decDigits u).toArray⟩ = bcs (Lib.decDigits u) from rfl] at h7; exact h7)⟩
  ·
    rw [hc4]
    refine cond_false_rule (b := false) (by kernel_rfl) rfl ?_
    refine wp_skip ?_
    refine wp_seq ?_
    refine region_rule ?_
    refine ops_rule (C := []) [] F 1 [] 1 (fun φ9 => [(7, .pointer (some ⟨(φ9 0), 0, none⟩))]) (fun φ9 => [((φ9 0), .cells #[.int .u8 0, .int .u8 0, .int .u8 0, .int .u8 0, .int .u8 0, .int .u8 0, .int .u8 0, .int .u8 0, .int .u8 0, .int .u8 0, .int .u8 0, .int .u8 0, .int .u8 0, .int .u8 0, .int .u8 0, .int .u8 0, .int .u8 0, .int .u8 0, .int .u8 0, .int .u8 0, .int .u8 0, .int .u8 0, .int .u8 0, .int .u8 0] 171)]) (fun φ9 => []) s trivial (fun φ9 => by kernel_rfl) ?_
    intro φ9 w9 s
    refine ops_done (by kernel_rfl) ?_
    refine wp_seq ?_
    refine region_rule ?_
    refine ops_rule (C := []) [((φ9 0), .cells #[.int .u8 0, .int .u8 0, .int .u8 0, .int .u8 0, .int .u8 0, .int .u8 0, .int .u8 0, .int .u8 0, .int .u8 0, .int .u8 0, .int .u8 0, .int .u8 0, .int .u8 0, .int .u8 0, .int .u8 0, .int .u8 0, .int .u8 0, .int .u8 0, .int .u8 0, .int .u8 0, .int .u8 0, .int .u8 0, .int .u8 0, .int .u8 0] 171)] F 1 [] 0 (fun φ10 => [(18, .int .u64 ((u : Nat) : Int))]) (fun φ10 => [((φ9 0), .cells #[.int .u8 0, .int .u8 0, .int .u8 0, .int .u8 0, .int .u8 0, .int .u8 0, .int .u8 0, .int .u8 0, .int .u8 0, .int .u8 0, .int .u8 0, .int .u8 0, .int .u8 0, .int .u8 0, .int .u8 0, .int .u8 0, .int .u8 0, .int .u8 0, .int .u8 0, .int .u8 0, .int .u8 0, .int .u8 0, .int .u8 0, .int .u8 0] 171)]) (fun φ10 => []) s trivial (fun φ10 => by kernel_rfl) ?_
    intro φ10 w10 s
    refine call_rule (some 19) s (numDigits_c hT (by have := of_decide_eq_false hc4; omega) hu) (by kernel_rfl) ?_
    intro v11 I11 w11 le11 h11 s
    replace hT := Tab.mono le11 hT
    obtain rfl := h11
    refine ops_rule (C := []) [((φ9 0), .cells #[.int .u8 0, .int .u8 0, .int .u8 0, .int .u8 0, .int .u8 0, .int .u8 0, .int .u8 0, .int .u8 0, .int .u8 0, .int .u8 0, .int .u8 0, .int .u8 0, .int .u8 0, .int .u8 0, .int .u8 0, .int .u8 0, .int .u8 0, .int .u8 0, .int .u8 0, .int .u8 0, .int .u8 0, .int .u8 0, .int .u8 0, .int .u8 0] 171)] F 1 [] 0 (fun φ12 => [(8, .int .i64 ((Lib.nDigits u : Nat) : Int))]) (fun φ12 => [((φ9 0), .cells #[.int .u8 0, .int .u8 0, .int .u8 0, .int .u8 0, .int .u8 0, .int .u8 0, .int .u8 0, .int .u8 0, .int .u8 0, .int .u8 0, .int .u8 0, .int .u8 0, .int .u8 0, .int .u8 0, .int .u8 0, .int .u8 0, .int .u8 0, .int .u8 0, .int .u8 0, .int .u8 0, .int .u8 0, .int .u8 0, .int .u8 0, .int .u8 0] 171)]) (fun φ12 => []) s trivial (fun φ12 => by kernel_rfl) ?_
    intro φ12 w12 s
    refine ops_done (by kernel_rfl) ?_
    refine wp_seq ?_
    refine region_rule ?_
    refine ops_rule (C := []) [((φ9 0), .cells #[.int .u8 0, .int .u8 0, .int .u8 0, .int .u8 0, .int .u8 0, .int .u8 0, .int .u8 0, .int .u8 0, .int .u8 0, .int .u8 0, .int .u8 0, .int .u8 0, .int .u8 0, .int .u8 0, .int .u8 0, .int .u8 0, .int .u8 0, .int .u8 0, .int .u8 0, .int .u8 0, .int .u8 0, .int .u8 0, .int .u8 0, .int .u8 0] 171)] F 1 [] 0 (fun φ13 => [(20, .int .i64 ((Lib.nDigits u : Nat) : Int))]) (fun φ13 => [((φ9 0), .cells #[.int .u8 0, .int .u8 0, .int .u8 0, .int .u8 0, .int .u8 0, .int .u8 0, .int .u8 0, .int .u8 0, .int .u8 0, .int .u8 0, .int .u8 0, .int .u8 0, .int .u8 0, .int .u8 0, .int .u8 0, .int .u8 0, .int .u8 0, .int .u8 0, .int .u8 0, .int .u8 0, .int .u8 0, .int .u8 0, .int .u8 0, .int .u8 0] 171)]) (fun φ13 => []) s trivial (fun φ13 => by kernel_rfl) ?_
    intro φ13 w13 s
    refine sem_rule (Instr.sliceAt 171 (.pointer (some ⟨(φ9 0), 0, none⟩)) none (some (.int .i64 ((Lib.nDigits u : Nat) : Int))) none) (some 21) (.slice (some ⟨(φ9 0), 0, none⟩) (Lib.nDigits u) 24) (by kernel_rfl) (run_sliceArr Tryd.underlying171 (by omega) (fun _ => rfl)) ?_
    refine ops_rule (C := []) [((φ9 0), .cells #[.int .u8 0, .int .u8 0, .int .u8 0, .int .u8 0, .int .u8 0, .int .u8 0, .int .u8 0, .int .u8 0, .int .u8 0, .int .u8 0, .int .u8 0, .int .u8 0, .int .u8 0, .int .u8 0, .int .u8 0, .int .u8 0, .int .u8 0, .int .u8 0, .int .u8 0, .int .u8 0, .int .u8 0, .int .u8 0, .int .u8 0, .int .u8 0] 171)] F 1 [] 0 (fun φ14 => [(22, .int .u64 ((u : Nat) : Int))]) (fun φ14 => [((φ9 0), .cells #[.int .u8 0, .int .u8 0, .int .u8 0, .int .u8 0, .int .u8 0, .int .u8 0, .int .u8 0, .int .u8 0, .int .u8 0, .int .u8 0, .int .u8 0, .int .u8 0, .int .u8 0, .int .u8 0, .int .u8 0, .int .u8 0, .int .u8 0, .int .u8 0, .int .u8 0, .int .u8 0, .int .u8 0, .int .u8 0, .int .u8 0, .int .u8 0] 171)]) (fun φ14 => []) s trivial (fun φ14 => by kernel_rfl) ?_
    intro φ14 w14 s
    refine callM_rule (Hi := [((φ9 0), .cells Z20 171)]) (Hr := F) (some 23) s (format_c (u := u) hu) (by kernel_rfl) ?_
    rintro v15 I15 w15 H15 le15 ⟨rfl, cur15, rfl, hz15, hd15⟩ s
    replace hT := Tab.mono le15 hT
    refine ops_done (by kernel_rfl) ?_
    refine wp_seq ?_
    refine region_rule ?_
    refine ops_rule (C := []) [((φ9 0), .cells cur15 171)] F 2 [] 0 (fun φ16 => [(25, .int .i64 ((Lib.nDigits u : Nat) : Int)), (24, v)]) (fun φ16 => [((φ9 0), .cells cur15 171)]) (fun φ16 => []) s trivial (fun φ16 => by kernel_rfl) ?_
    intro φ16 w16 s
    refine sem_rule (Instr.sliceAt 171 (.pointer (some ⟨(φ9 0), 0, none⟩)) none (some (.int .i64 ((Lib.nDigits u : Nat) : Int))) none) (some 26) (.slice (some ⟨(φ9 0), 0, none⟩) (Lib.nDigits u) 24) (by kernel_rfl) (run_sliceArr Tryd.underlying171 (by omega) (fun _ => rfl)) ?_
    refine append_rule (H := [((φ9 0), .cells cur15 171)]) (F := F) 22 22 5 Tryd.t5 (.int .u8 0) 1 1 (some 27) s Tryd.underlying22 (by kernel_rfl) (by kernel_rfl) (by kernel_rfl) (by kernel_rfl) (by kernel_rfl) (by decide) hrow (src_own s 0 (φ9 0) cur15 171 22 5 (Lib.nDigits u) 24 1 (bcs (Lib.decDigits u)) (by kernel_rfl) Tryd.underlying22 hd15 (by rw [Lib.byteCells_length, Lib.decDigits_length]; omega) (one_bcs _)) (by simp only [maxLen]; omega) (by omega) (by kernel_rfl) ?_
    intro v17 w17 F17 s h17
    refine ops_rule (C := []) [((φ9 0), .cells cur15 171)] F17 1 [] 0 (fun φ18 => [(6, v17)]) (fun φ18 => [((φ9 0), .cells cur15 171)]) (fun φ18 => []) s trivial (fun φ18 => by kernel_rfl) ?_
    intro φ18 w18 s
    refine ops_done (by kernel_rfl) ?_
    refine wp_ret ?_
    refine ret_rule (C := []) [((φ9 0), .cells cur15 171)] F17 (v17) [] [] s trivial (by kernel_rfl) ?_
    replace s := s.drop (List.sublist_append_right [((φ9 0), .cells cur15 171)] F17)
    exact ⟨_, _, _, rfl, s, (by rw [← Lib.decDigits_length] at h17; exact h17)⟩

set_option maxHeartbeats 1000000 in
theorem appendUint_c {I : IM} {u n : Nat} {v : Value} {xs : List Value} {F : List OB} (hT : Tab I) (hu : u < 18446744073709551616) (hrow : RowH 5 1 v n xs F) (hlim : n + 20 ≤ 140737488355328) : FunM Tryd.prog 102 #[v, .int .u64 ((u : Nat) : Int), .int .i64 10] I F (fun v' J F' => RowH 5 1 v' (n + (Lib.decDigits u).length) (xs ++ bcs (Lib.decDigits u)) F') := by
  refine enterM_rule 11 [(0, v), (1, .int .u64 ((u : Nat) : Int)), (2, .int .i64 10)] Tryd.func102 rfl (by kernel_rfl) ?_
  intro w s
  refine wp_seq ?_
  refine region_rule ?_
  refine ops_rule (C := []) [] F 1 [] 0 (fun φ1 => [(6, .slice none 0 0)]) (fun φ1 => []) (fun φ1 => []) s trivial (fun φ1 => by kernel_rfl) ?_
  intro φ1 w1 s
  refine ops_done (by kernel_rfl) ?_
  refine wp_seq ?_
  refine region_rule ?_
  refine ops_rule (C := []) [] F 3 [] 0 (fun φ2 => [(9, .int .i64 10), (8, .int .u64 ((u : Nat) : Int)), (7, v)]) (fun φ2 => []) (fun φ2 => []) s trivial (fun φ2 => by kernel_rfl) ?_
  intro φ2 w2 s
  refine callF_rule (H := []) (F := F) (some 10) s (appendUint0_c hT hu hrow hlim) (by kernel_rfl) ?_
  intro v3 I3 w3 F3 le3 h3 s
  replace hT := Tab.mono le3 hT
  refine ops_rule (C := []) [] F3 1 [] 0 (fun φ4 => [(6, v3)]) (fun φ4 => []) (fun φ4 => []) s trivial (fun φ4 => by kernel_rfl) ?_
  intro φ4 w4 s
  refine ops_done (by kernel_rfl) ?_
  refine wp_ret ?_
  refine ret_rule (C := []) [] F3 (v3) [] [] s trivial (by kernel_rfl) ?_
  replace s := s.drop (List.sublist_append_right [] F3)
  exact ⟨_, _, _, rfl, s, h3⟩

end Go.Proofs.YtgdickihjaomjaaDoor
/- Event trees as texts. -/
set_option linter.all false
set_option maxRecDepth 100000
namespace Go.Proofs.YtgdickihjaomjaaDoor
open Go.RowKit Go.Sep Go.Lib

def textE : E → List UInt8
  | .leaf n => Lib.decDigits n
  | .node n l r => [40] ++ Lib.decDigits n ++ [44] ++ textE l ++ [44] ++ textE r ++ [41]
theorem push_all : ∀ (l : List UInt8) (s : ByteArray), (l.map fun b => ((b.toNat : Nat) : Int)).foldl (fun r n => r.push (UInt8.ofNat n.toNat)) s = ⟨s.data ++ l.toArray⟩
  | [], s => by cases s; simp
  | b :: l, s => by
    simp only [List.map_cons, List.foldl_cons, Int.toNat_natCast]
    rw [push_all l]
    have : UInt8.ofNat b.toNat = b := by simp
    rw [this]
    congr 1
    apply Array.ext'
    simp [ByteArray.push]
theorem run_rowString {w0 : World} {I0 : IM} {m : List Nat} {I : IM} {H F : List OB} {w : World} (s : St w0 I0 m I w (H ++ F)) {v : Value} {n : Nat} {l : List UInt8} (h : RowH 5 1 v n (bcs l) F) : (convert 22 9 v).run Tryd.prog w = .ok (.string ⟨l.toArray⟩) w := by
  have hl : l.length = n := by have := h.1; rw [Lib.byteCells_length] at this; omega
  subst hl
  rcases h.2 with ⟨rfl, hn, hF⟩ | ⟨g, cap, cur, rfl, rfl, hc, hm, hs, ht⟩
  · rw [run_convert_bytes_string w 22 9 5 _ _ _ Tryd.underlying22 Tryd.underlying5 Tryd.underlying9]
    have : l = [] := List.eq_nil_of_length_eq_zero hn
    subst this; rfl
  · have hb : w.heap[g]? = some (.cells cur 5 (0, 0)) := s.own (g, _) (by simp)
    rw [run_convert_bytes_string w 22 9 5 _ _ _ Tryd.underlying22 Tryd.underlying5 Tryd.underlying9]
    have hld : (loadCells ⟨g, 0, none⟩ l.length).run Tryd.prog w = .ok ((l.map fun b => ((b.toNat : Nat) : Int)).map (Value.int .u8)).toArray w := by
      have := run_firstCells_some (P := Tryd.prog) w 1 l.length ⟨g, 0, none⟩ l.length cap (bcs l) (by rw [Lib.byteCells_length]; omega) (fun j u hu => by
        have hadd : (⟨g, 0, none⟩ : Addr).add j = ⟨g, j, none⟩ := by unfold Addr.add; split <;> simp_all
        rw [hadd, run_cell (a := ⟨g, j, none⟩) hb rfl rfl]
        rw [← ht, List.getElem?_take] at hu
        split at hu
        · simpa using hu
        · cases hu)
      simp only [Builtin.firstCells, Nat.mul_one] at this
      rw [this]; simp [Lib.byteCells]
    rw [run_bytesToString w ⟨g, 0, none⟩ l.length cap _ hld, push_all]
    simp

set_option maxHeartbeats 1000000 in
theorem appendText_leaf {m : Nat} {I : IM} {b n : Nat} {p : Option Addr} {v : Value} {xs : List Value} {F : List OB} (hT : Tab I) (h : ERep I (E.leaf m) b p) (hrow : RowH 5 1 v n xs F) (ht : (E.leaf m).top < 18446744073709551616) (hlim : n + (textE (E.leaf m)).length + 20 ≤ 140737488355328) : FunM Tryd.prog 74 #[evv b p, v] I F (fun v' J F' => RowH 5 1 v' (n + (textE (E.leaf m)).length) (xs ++ bcs (textE (E.leaf m))) F') := by
  obtain ⟨rfl, rfl⟩ := h
  have hlim1 : n + (Lib.decDigits b).length + 20 ≤ 140737488355328 := hlim
  have ht1 : b < 18446744073709551616 := ht
  refine enterM_rule 35 [(0, .agg #[.int .u64 ((b : Nat) : Int), .pointer none]), (1, v)] Tryd.func74 rfl (by kernel_rfl) ?_
  intro w s
  refine wp_seq ?_
  refine region_rule ?_
  refine ops_rule (C := []) [] F 2 [] 1 (fun φ1 => [(4, .slice none 0 0), (2, .pointer (some ⟨(φ1 0), 0, none⟩))]) (fun φ1 => [((φ1 0), .cells #[.int .u64 ((b : Nat) : Int), .pointer none] 27)]) (fun φ1 => []) s trivial (fun φ1 => by kernel_rfl) ?_
  intro φ1 w1 s
  refine ops_done (by kernel_rfl) ?_
  refine wp_seq ?_
  refine wp_seq ?_
  refine region_rule ?_
  refine ops_rule (C := []) [((φ1 0), .cells #[.int .u64 ((b : Nat) : Int), .pointer none] 27)] F 1 [.o 0, .o 0] 0 (fun φ2 => [(5, .agg #[.int .u64 ((b : Nat) : Int), .pointer none])]) (fun φ2 => [((φ1 0), .cells #[.int .u64 ((b : Nat) : Int), .pointer none] 27)]) (fun φ2 => [(φ1 0), (φ1 0)]) s trivial (fun φ2 => by kernel_rfl) ?_
  intro φ2 w2 s
  refine call_rule (some 6) s (isLeaf_c (ERep.lf _ b)) (by kernel_rfl) ?_
  intro v3 I3 w3 le3 h3 s
  replace hT := Tab.mono le3 hT
  obtain rfl := h3
  refine ops_done (by kernel_rfl) ?_
  refine cond_true_rule (b := true) (by kernel_rfl) rfl ?_
  refine wp_seq ?_
  refine region_rule ?_
  refine ops_rule (C := []) [((φ1 0), .cells #[.int .u64 ((b : Nat) : Int), .pointer none] 27)] F 3 [.o 0] 0 (fun φ4 => [(9, .int .u64 ((b : Nat) : Int)), (8, .pointer (some ⟨(φ1 0), 0, none⟩)), (7, v)]) (fun φ4 => [((φ1 0), .cells #[.int .u64 ((b : Nat) : Int), .pointer none] 27)]) (fun φ4 => [(φ1 0)]) s trivial (fun φ4 => by kernel_rfl) ?_
  intro φ4 w4 s
  refine callF_rule (H := [((φ1 0), .cells #[.int .u64 ((b : Nat) : Int), .pointer none] 27)]) (F := F) (some 10) s (appendUint_c (u := b) hT (by omega) hrow (by omega)) (by kernel_rfl) ?_
  intro v5 I5 w5 F5 le5 h5 s
  replace hT := Tab.mono le5 hT
  refine ops_rule (C := []) [((φ1 0), .cells #[.int .u64 ((b : Nat) : Int), .pointer none] 27)] F5 1 [] 0 (fun φ6 => [(4, v5)]) (fun φ6 => [((φ1 0), .cells #[.int .u64 ((b : Nat) : Int), .pointer none] 27)]) (fun φ6 => []) s trivial (fun φ6 => by kernel_rfl) ?_
  intro φ6 w6 s
  refine ops_done (by kernel_rfl) ?_
  refine wp_ret ?_
  refine ret_rule (C := []) [((φ1 0), .cells #[.int .u64 ((b : Nat) : Int), .pointer none] 27)] F5 (v5) [] [] s trivial (by kernel_rfl) ?_
  replace s := s.drop (List.sublist_append_right [((φ1 0), .cells #[.int .u64 ((b : Nat) : Int), .pointer none] 27)] F5)
  exact ⟨_, _, _, rfl, s, h5⟩

set_option maxHeartbeats 2000000 in
theorem appendText_node {m : Nat} {l r : E} {I : IM} {b n : Nat} {p : Option Addr} {v : Value} {xs : List Value} {F : List OB} (hT : Tab I) (h : ERep I (E.node m l r) b p) (hrow : RowH 5 1 v n xs F) (ht : (E.node m l r).top < 18446744073709551616) (hlim : n + (textE (E.node m l r)).length + 20 ≤ 140737488355328) (ihl : ∀ {I : IM} {b n : Nat} {p : Option Addr} {v : Value} {xs : List Value} {F : List OB}, Tab I → ERep I l b p → RowH 5 1 v n xs F → n + (textE l).length + 20 ≤ 140737488355328 → FunM Tryd.prog 74 #[evv b p, v] I F (fun v' J F' => RowH 5 1 v' (n + (textE l).length) (xs ++ bcs (textE l)) F')) (ihr : ∀ {I : IM} {b n : Nat} {p : Option Addr} {v : Value} {xs : List Value} {F : List OB}, Tab I → ERep I r b p → RowH 5 1 v n xs F → n + (textE r).length + 20 ≤ 140737488355328 → FunM Tryd.prog 74 #[evv b p, v] I F (fun v' J F' => RowH 5 1 v' (n + (textE r).length) (xs ++ bcs (textE r)) F')) : FunM Tryd.prog 74 #[evv b p, v] I F (fun v' J F' => RowH 5 1 v' (n + (textE (E.node m l r)).length) (xs ++ bcs (textE (E.node m l r))) F') := by
  have hn := h
  obtain ⟨rfl, k, bl, pl, br, pr, rfl, hk, hl, hr⟩ := h
  have hlim1 : n + (Lib.decDigits b).length + (textE l).length + (textE r).length + 4 + 20 ≤ 140737488355328 := by simp only [textE, List.length_append, List.length_cons, List.length_nil] at hlim; omega
  have ht1 : b + max l.top r.top < 18446744073709551616 := ht
  refine enterM_rule 35 [(0, .agg #[.int .u64 ((b : Nat) : Int), .pointer (some ⟨k, 0, none⟩)]), (1, v)] Tryd.func74 rfl (by kernel_rfl) ?_
  intro w s
  refine wp_seq ?_
  refine region_rule ?_
  refine ops_rule (C := []) [] F 2 [] 1 (fun φ1 => [(4, .slice none 0 0), (2, .pointer (some ⟨(φ1 0), 0, none⟩))]) (fun φ1 => [((φ1 0), .cells #[.int .u64 ((b : Nat) : Int), .pointer (some ⟨k, 0, none⟩)] 27)]) (fun φ1 => []) s trivial (fun φ1 => by kernel_rfl) ?_
  intro φ1 w1 s
  refine ops_done (by kernel_rfl) ?_
  refine wp_seq ?_
  refine wp_seq ?_
  refine region_rule ?_
  refine ops_rule (C := []) [((φ1 0), .cells #[.int .u64 ((b : Nat) : Int), .pointer (some ⟨k, 0, none⟩)] 27)] F 1 [.o 0, .o 0] 0 (fun φ2 => [(5, .agg #[.int .u64 ((b : Nat) : Int), .pointer (some ⟨k, 0, none⟩)])]) (fun φ2 => [((φ1 0), .cells #[.int .u64 ((b : Nat) : Int), .pointer (some ⟨k, 0, none⟩)] 27)]) (fun φ2 => [(φ1 0), (φ1 0)]) s trivial (fun φ2 => by kernel_rfl) ?_
  intro φ2 w2 s
  refine call_rule (some 6) s (isLeaf_c hn) (by kernel_rfl) ?_
  intro v3 I3 w3 le3 h3 s
  replace hT := Tab.mono le3 hT
  replace hl := ERep.mono le3 hl
  replace hr := ERep.mono le3 hr
  replace hn := ERep.mono le3 hn
  replace hk := le3 _ _ hk
  obtain rfl := h3
  refine ops_done (by kernel_rfl) ?_
  refine cond_false_rule (b := false) (by kernel_rfl) rfl ?_
  refine wp_skip ?_
  refine wp_seq ?_
  refine region_rule ?_
  refine ops_rule (C := []) [((φ1 0), .cells #[.int .u64 ((b : Nat) : Int), .pointer (some ⟨k, 0, none⟩)] 27)] F 2 [] 1 (fun φ4 => [(12, .slice (some ⟨(φ4 0), 0, none⟩) 1 1), (11, v)]) (fun φ4 => [((φ1 0), .cells #[.int .u64 ((b : Nat) : Int), .pointer (some ⟨k, 0, none⟩)] 27), ((φ4 0), .cells #[.int .u8 40] 5)]) (fun φ4 => []) s trivial (fun φ4 => by kernel_rfl) ?_
  intro φ4 w4 s
  refine append_rule (H := [((φ1 0), .cells #[.int .u64 ((b : Nat) : Int), .pointer (some ⟨k, 0, none⟩)] 27), ((φ4 0), .cells #[.int .u8 40] 5)]) (F := F) 22 22 5 Tryd.t5 (.int .u8 0) 1 1 (some 13) s Tryd.underlying22 (by kernel_rfl) (by kernel_rfl) (by kernel_rfl) (by kernel_rfl) (by kernel_rfl) (by decide) hrow (src_own s 1 (φ4 0) #[.int .u8 40] 5 22 5 1 1 1 [.int .u8 40] (by kernel_rfl) Tryd.underlying22 (by kernel_rfl) (by kernel_rfl) (by kernel_rfl)) (by simp only [maxLen]; omega) (by omega) (by kernel_rfl) ?_
  intro v5 w5 F5 s h5
  refine ops_rule (C := []) [((φ1 0), .cells #[.int .u64 ((b : Nat) : Int), .pointer (some ⟨k, 0, none⟩)] 27), ((φ4 0), .cells #[.int .u8 40] 5)] F5 1 [] 0 (fun φ6 => [(1, v5)]) (fun φ6 => [((φ1 0), .cells #[.int .u64 ((b : Nat) : Int), .pointer (some ⟨k, 0, none⟩)] 27), ((φ4 0), .cells #[.int .u8 40] 5)]) (fun φ6 => []) s trivial (fun φ6 => by kernel_rfl) ?_
  intro φ6 w6 s
  refine ops_done (by kernel_rfl) ?_
  refine wp_seq ?_
  refine region_rule ?_
  refine ops_rule (C := []) [((φ1 0), .cells #[.int .u64 ((b : Nat) : Int), .pointer (some ⟨k, 0, none⟩)] 27), ((φ4 0), .cells #[.int .u8 40] 5)] F5 3 [.o 0] 0 (fun φ7 => [(16, .int .u64 ((b : Nat) : Int)), (15, .pointer (some ⟨(φ1 0), 0, none⟩)), (14, v5)]) (fun φ7 => [((φ1 0), .cells #[.int .u64 ((b : Nat) : Int), .pointer (some ⟨k, 0, none⟩)] 27), ((φ4 0), .cells #[.int .u8 40] 5)]) (fun φ7 => [(φ1 0)]) s trivial (fun φ7 => by kernel_rfl) ?_
  intro φ7 w7 s
  refine callF_rule (H := [((φ1 0), .cells #[.int .u64 ((b : Nat) : Int), .pointer (some ⟨k, 0, none⟩)] 27), ((φ4 0), .cells #[.int .u8 40] 5)]) (F := F5) (some 17) s (appendUint_c (u := b) hT (by omega) h5 (by omega)) (by kernel_rfl) ?_
  intro v8 I8 w8 F8 le8 h8 s
  replace hT := Tab.mono le8 hT
  replace hl := ERep.mono le8 hl
  replace hr := ERep.mono le8 hr
  replace hn := ERep.mono le8 hn
  replace hk := le8 _ _ hk
  refine ops_rule (C := []) [((φ1 0), .cells #[.int .u64 ((b : Nat) : Int), .pointer (some ⟨k, 0, none⟩)] 27), ((φ4 0), .cells #[.int .u8 40] 5)] F8 1 [] 0 (fun φ9 => [(1, v8)]) (fun φ9 => [((φ1 0), .cells #[.int .u64 ((b : Nat) : Int), .pointer (some ⟨k, 0, none⟩)] 27), ((φ4 0), .cells #[.int .u8 40] 5)]) (fun φ9 => []) s trivial (fun φ9 => by kernel_rfl) ?_
  intro φ9 w9 s
  refine ops_done (by kernel_rfl) ?_
  refine wp_seq ?_
  refine region_rule ?_
  refine ops_rule (C := []) [((φ1 0), .cells #[.int .u64 ((b : Nat) : Int), .pointer (some ⟨k, 0, none⟩)] 27), ((φ4 0), .cells #[.int .u8 40] 5)] F8 2 [] 1 (fun φ10 => [(19, .slice (some ⟨(φ10 0), 0, none⟩) 1 1), (18, v8)]) (fun φ10 => [((φ1 0), .cells #[.int .u64 ((b : Nat) : Int), .pointer (some ⟨k, 0, none⟩)] 27), ((φ4 0), .cells #[.int .u8 40] 5), ((φ10 0), .cells #[.int .u8 44] 5)]) (fun φ10 => []) s trivial (fun φ10 => by kernel_rfl) ?_
  intro φ10 w10 s
  refine append_rule (H := [((φ1 0), .cells #[.int .u64 ((b : Nat) : Int), .pointer (some ⟨k, 0, none⟩)] 27), ((φ4 0), .cells #[.int .u8 40] 5), ((φ10 0), .cells #[.int .u8 44] 5)]) (F := F8) 22 22 5 Tryd.t5 (.int .u8 0) 1 1 (some 20) s Tryd.underlying22 (by kernel_rfl) (by kernel_rfl) (by kernel_rfl) (by kernel_rfl) (by kernel_rfl) (by decide) h8 (src_own s 2 (φ10 0) #[.int .u8 44] 5 22 5 1 1 1 [.int .u8 44] (by kernel_rfl) Tryd.underlying22 (by kernel_rfl) (by kernel_rfl) (by kernel_rfl)) (by simp only [maxLen]; omega) (by omega) (by kernel_rfl) ?_
  intro v11 w11 F11 s h11
  refine ops_rule (C := []) [((φ1 0), .cells #[.int .u64 ((b : Nat) : Int), .pointer (some ⟨k, 0, none⟩)] 27), ((φ4 0), .cells #[.int .u8 40] 5), ((φ10 0), .cells #[.int .u8 44] 5)] F11 1 [] 0 (fun φ12 => [(1, v11)]) (fun φ12 => [((φ1 0), .cells #[.int .u64 ((b : Nat) : Int), .pointer (some ⟨k, 0, none⟩)] 27), ((φ4 0), .cells #[.int .u8 40] 5), ((φ10 0), .cells #[.int .u8 44] 5)]) (fun φ12 => []) s trivial (fun φ12 => by kernel_rfl) ?_
  intro φ12 w12 s
  refine ops_done (by kernel_rfl) ?_
  refine wp_seq ?_
  refine region_rule ?_
  refine ops_rule (C := []) [((φ1 0), .cells #[.int .u64 ((b : Nat) : Int), .pointer (some ⟨k, 0, none⟩)] 27), ((φ4 0), .cells #[.int .u8 40] 5), ((φ10 0), .cells #[.int .u8 44] 5)] F11 1 [.o 0, .o 0] 0 (fun φ13 => [(21, .agg #[.int .u64 ((b : Nat) : Int), .pointer (some ⟨k, 0, none⟩)])]) (fun φ13 => [((φ1 0), .cells #[.int .u64 ((b : Nat) : Int), .pointer (some ⟨k, 0, none⟩)] 27), ((φ4 0), .cells #[.int .u8 40] 5), ((φ10 0), .cells #[.int .u8 44] 5)]) (fun φ13 => [(φ1 0), (φ1 0)]) s trivial (fun φ13 => by kernel_rfl) ?_
  intro φ13 w13 s
  refine call_rule (some 22) s (left_c hn) (by kernel_rfl) ?_
  intro v14 I14 w14 le14 h14 s
  replace hT := Tab.mono le14 hT
  replace hl := ERep.mono le14 hl
  replace hr := ERep.mono le14 hr
  replace hn := ERep.mono le14 hn
  replace hk := le14 _ _ hk
  obtain ⟨b14, p14, rfl, h14_0⟩ := h14
  refine ops_rule (C := []) [((φ1 0), .cells #[.int .u64 ((b : Nat) : Int), .pointer (some ⟨k, 0, none⟩)] 27), ((φ4 0), .cells #[.int .u8 40] 5), ((φ10 0), .cells #[.int .u8 44] 5)] F11 1 [] 0 (fun φ15 => [(23, v11)]) (fun φ15 => [((φ1 0), .cells #[.int .u64 ((b : Nat) : Int), .pointer (some ⟨k, 0, none⟩)] 27), ((φ4 0), .cells #[.int .u8 40] 5), ((φ10 0), .cells #[.int .u8 44] 5)]) (fun φ15 => []) s trivial (fun φ15 => by kernel_rfl) ?_
  intro φ15 w15 s
  refine callF_rule (H := [((φ1 0), .cells #[.int .u64 ((b : Nat) : Int), .pointer (some ⟨k, 0, none⟩)] 27), ((φ4 0), .cells #[.int .u8 40] 5), ((φ10 0), .cells #[.int .u8 44] 5)]) (F := F11) (some 24) s (ihl hT h14_0 h11 (by omega)) (by kernel_rfl) ?_
  intro v16 I16 w16 F16 le16 h16 s
  replace hT := Tab.mono le16 hT
  replace hl := ERep.mono le16 hl
  replace hr := ERep.mono le16 hr
  replace hn := ERep.mono le16 hn
  replace h14_0 := ERep.mono le16 h14_0
  replace hk := le16 _ _ hk
  refine ops_rule (C := []) [((φ1 0), .cells #[.int .u64 ((b : Nat) : Int), .pointer (some ⟨k, 0, none⟩)] 27), ((φ4 0), .cells #[.int .u8 40] 5), ((φ10 0), .cells #[.int .u8 44] 5)] F16 1 [] 0 (fun φ17 => [(1, v16)]) (fun φ17 => [((φ1 0), .cells #[.int .u64 ((b : Nat) : Int), .pointer (some ⟨k, 0, none⟩)] 27), ((φ4 0), .cells #[.int .u8 40] 5), ((φ10 0), .cells #[.int .u8 44] 5)]) (fun φ17 => []) s trivial (fun φ17 => by kernel_rfl) ?_
  intro φ17 w17 s
  refine ops_done (by kernel_rfl) ?_
  refine wp_seq ?_
  refine region_rule ?_
  refine ops_rule (C := []) [((φ1 0), .cells #[.int .u64 ((b : Nat) : Int), .pointer (some ⟨k, 0, none⟩)] 27), ((φ4 0), .cells #[.int .u8 40] 5), ((φ10 0), .cells #[.int .u8 44] 5)] F16 2 [] 1 (fun φ18 => [(26, .slice (some ⟨(φ18 0), 0, none⟩) 1 1), (25, v16)]) (fun φ18 => [((φ1 0), .cells #[.int .u64 ((b : Nat) : Int), .pointer (some ⟨k, 0, none⟩)] 27), ((φ4 0), .cells #[.int .u8 40] 5), ((φ10 0), .cells #[.int .u8 44] 5), ((φ18 0), .cells #[.int .u8 44] 5)]) (fun φ18 => []) s trivial (fun φ18 => by kernel_rfl) ?_
  intro φ18 w18 s
  refine append_rule (H := [((φ1 0), .cells #[.int .u64 ((b : Nat) : Int), .pointer (some ⟨k, 0, none⟩)] 27), ((φ4 0), .cells #[.int .u8 40] 5), ((φ10 0), .cells #[.int .u8 44] 5), ((φ18 0), .cells #[.int .u8 44] 5)]) (F := F16) 22 22 5 Tryd.t5 (.int .u8 0) 1 1 (some 27) s Tryd.underlying22 (by kernel_rfl) (by kernel_rfl) (by kernel_rfl) (by kernel_rfl) (by kernel_rfl) (by decide) h16 (src_own s 3 (φ18 0) #[.int .u8 44] 5 22 5 1 1 1 [.int .u8 44] (by kernel_rfl) Tryd.underlying22 (by kernel_rfl) (by kernel_rfl) (by kernel_rfl)) (by simp only [maxLen]; omega) (by omega) (by kernel_rfl) ?_
  intro v19 w19 F19 s h19
  refine ops_rule (C := []) [((φ1 0), .cells #[.int .u64 ((b : Nat) : Int), .pointer (some ⟨k, 0, none⟩)] 27), ((φ4 0), .cells #[.int .u8 40] 5), ((φ10 0), .cells #[.int .u8 44] 5), ((φ18 0), .cells #[.int .u8 44] 5)] F19 1 [] 0 (fun φ20 => [(1, v19)]) (fun φ20 => [((φ1 0), .cells #[.int .u64 ((b : Nat) : Int), .pointer (some ⟨k, 0, none⟩)] 27), ((φ4 0), .cells #[.int .u8 40] 5), ((φ10 0), .cells #[.int .u8 44] 5), ((φ18 0), .cells #[.int .u8 44] 5)]) (fun φ20 => []) s trivial (fun φ20 => by kernel_rfl) ?_
  intro φ20 w20 s
  refine ops_done (by kernel_rfl) ?_
  refine wp_seq ?_
  refine region_rule ?_
  refine ops_rule (C := []) [((φ1 0), .cells #[.int .u64 ((b : Nat) : Int), .pointer (some ⟨k, 0, none⟩)] 27), ((φ4 0), .cells #[.int .u8 40] 5), ((φ10 0), .cells #[.int .u8 44] 5), ((φ18 0), .cells #[.int .u8 44] 5)] F19 1 [.o 0, .o 0] 0 (fun φ21 => [(28, .agg #[.int .u64 ((b : Nat) : Int), .pointer (some ⟨k, 0, none⟩)])]) (fun φ21 => [((φ1 0), .cells #[.int .u64 ((b : Nat) : Int), .pointer (some ⟨k, 0, none⟩)] 27), ((φ4 0), .cells #[.int .u8 40] 5), ((φ10 0), .cells #[.int .u8 44] 5), ((φ18 0), .cells #[.int .u8 44] 5)]) (fun φ21 => [(φ1 0), (φ1 0)]) s trivial (fun φ21 => by kernel_rfl) ?_
  intro φ21 w21 s
  refine call_rule (some 29) s (right_c hn) (by kernel_rfl) ?_
  intro v22 I22 w22 le22 h22 s
  replace hT := Tab.mono le22 hT
  replace hl := ERep.mono le22 hl
  replace hr := ERep.mono le22 hr
  replace hn := ERep.mono le22 hn
  replace h14_0 := ERep.mono le22 h14_0
  replace hk := le22 _ _ hk
  obtain ⟨b22, p22, rfl, h22_0⟩ := h22
  refine ops_rule (C := []) [((φ1 0), .cells #[.int .u64 ((b : Nat) : Int), .pointer (some ⟨k, 0, none⟩)] 27), ((φ4 0), .cells #[.int .u8 40] 5), ((φ10 0), .cells #[.int .u8 44] 5), ((φ18 0), .cells #[.int .u8 44] 5)] F19 1 [] 0 (fun φ23 => [(30, v19)]) (fun φ23 => [((φ1 0), .cells #[.int .u64 ((b : Nat) : Int), .pointer (some ⟨k, 0, none⟩)] 27), ((φ4 0), .cells #[.int .u8 40] 5), ((φ10 0), .cells #[.int .u8 44] 5), ((φ18 0), .cells #[.int .u8 44] 5)]) (fun φ23 => []) s trivial (fun φ23 => by kernel_rfl) ?_
  intro φ23 w23 s
  refine callF_rule (H := [((φ1 0), .cells #[.int .u64 ((b : Nat) : Int), .pointer (some ⟨k, 0, none⟩)] 27), ((φ4 0), .cells #[.int .u8 40] 5), ((φ10 0), .cells #[.int .u8 44] 5), ((φ18 0), .cells #[.int .u8 44] 5)]) (F := F19) (some 31) s (ihr hT h22_0 h19 (by omega)) (by kernel_rfl) ?_
  intro v24 I24 w24 F24 le24 h24 s
  replace hT := Tab.mono le24 hT
  replace hl := ERep.mono le24 hl
  replace hr := ERep.mono le24 hr
  replace hn := ERep.mono le24 hn
  replace h14_0 := ERep.mono le24 h14_0
  replace h22_0 := ERep.mono le24 h22_0
  replace hk := le24 _ _ hk
  refine ops_rule (C := []) [((φ1 0), .cells #[.int .u64 ((b : Nat) : Int), .pointer (some ⟨k, 0, none⟩)] 27), ((φ4 0), .cells #[.int .u8 40] 5), ((φ10 0), .cells #[.int .u8 44] 5), ((φ18 0), .cells #[.int .u8 44] 5)] F24 1 [] 0 (fun φ25 => [(1, v24)]) (fun φ25 => [((φ1 0), .cells #[.int .u64 ((b : Nat) : Int), .pointer (some ⟨k, 0, none⟩)] 27), ((φ4 0), .cells #[.int .u8 40] 5), ((φ10 0), .cells #[.int .u8 44] 5), ((φ18 0), .cells #[.int .u8 44] 5)]) (fun φ25 => []) s trivial (fun φ25 => by kernel_rfl) ?_
  intro φ25 w25 s
  refine ops_done (by kernel_rfl) ?_
  refine wp_seq ?_
  refine region_rule ?_
  refine ops_rule (C := []) [((φ1 0), .cells #[.int .u64 ((b : Nat) : Int), .pointer (some ⟨k, 0, none⟩)] 27), ((φ4 0), .cells #[.int .u8 40] 5), ((φ10 0), .cells #[.int .u8 44] 5), ((φ18 0), .cells #[.int .u8 44] 5)] F24 2 [] 1 (fun φ26 => [(33, .slice (some ⟨(φ26 0), 0, none⟩) 1 1), (32, v24)]) (fun φ26 => [((φ1 0), .cells #[.int .u64 ((b : Nat) : Int), .pointer (some ⟨k, 0, none⟩)] 27), ((φ4 0), .cells #[.int .u8 40] 5), ((φ10 0), .cells #[.int .u8 44] 5), ((φ18 0), .cells #[.int .u8 44] 5), ((φ26 0), .cells #[.int .u8 41] 5)]) (fun φ26 => []) s trivial (fun φ26 => by kernel_rfl) ?_
  intro φ26 w26 s
  refine append_rule (H := [((φ1 0), .cells #[.int .u64 ((b : Nat) : Int), .pointer (some ⟨k, 0, none⟩)] 27), ((φ4 0), .cells #[.int .u8 40] 5), ((φ10 0), .cells #[.int .u8 44] 5), ((φ18 0), .cells #[.int .u8 44] 5), ((φ26 0), .cells #[.int .u8 41] 5)]) (F := F24) 22 22 5 Tryd.t5 (.int .u8 0) 1 1 (some 34) s Tryd.underlying22 (by kernel_rfl) (by kernel_rfl) (by kernel_rfl) (by kernel_rfl) (by kernel_rfl) (by decide) h24 (src_own s 4 (φ26 0) #[.int .u8 41] 5 22 5 1 1 1 [.int .u8 41] (by kernel_rfl) Tryd.underlying22 (by kernel_rfl) (by kernel_rfl) (by kernel_rfl)) (by simp only [maxLen]; omega) (by omega) (by kernel_rfl) ?_
  intro v27 w27 F27 s h27
  refine ops_rule (C := []) [((φ1 0), .cells #[.int .u64 ((b : Nat) : Int), .pointer (some ⟨k, 0, none⟩)] 27), ((φ4 0), .cells #[.int .u8 40] 5), ((φ10 0), .cells #[.int .u8 44] 5), ((φ18 0), .cells #[.int .u8 44] 5), ((φ26 0), .cells #[.int .u8 41] 5)] F27 1 [] 0 (fun φ28 => [(4, v27)]) (fun φ28 => [((φ1 0), .cells #[.int .u64 ((b : Nat) : Int), .pointer (some ⟨k, 0, none⟩)] 27), ((φ4 0), .cells #[.int .u8 40] 5), ((φ10 0), .cells #[.int .u8 44] 5), ((φ18 0), .cells #[.int .u8 44] 5), ((φ26 0), .cells #[.int .u8 41] 5)]) (fun φ28 => []) s trivial (fun φ28 => by kernel_rfl) ?_
  intro φ28 w28 s
  refine ops_done (by kernel_rfl) ?_
  refine wp_ret ?_
  refine ret_rule (C := []) [((φ1 0), .cells #[.int .u64 ((b : Nat) : Int), .pointer (some ⟨k, 0, none⟩)] 27), ((φ4 0), .cells #[.int .u8 40] 5), ((φ10 0), .cells #[.int .u8 44] 5), ((φ18 0), .cells #[.int .u8 44] 5), ((φ26 0), .cells #[.int .u8 41] 5)] F27 (v27) [] [] s trivial (by kernel_rfl) ?_
  replace s := s.drop (List.sublist_append_right [((φ1 0), .cells #[.int .u64 ((b : Nat) : Int), .pointer (some ⟨k, 0, none⟩)] 27), ((φ4 0), .cells #[.int .u8 40] 5), ((φ10 0), .cells #[.int .u8 44] 5), ((φ18 0), .cells #[.int .u8 44] 5), ((φ26 0), .cells #[.int .u8 41] 5)] F27)
  exact ⟨_, _, _, rfl, s, (by have e := h27; simp only [textE, Lib.byteCells_append, List.append_assoc, List.length_append, Nat.add_assoc, List.length_cons, List.length_nil, Nat.zero_add] at e ⊢; exact e)⟩

theorem appendText_c : ∀ (t : E) {I : IM} {b n : Nat} {p : Option Addr} {v : Value} {xs : List Value} {F : List OB}, t.top < 18446744073709551616 → Tab I → ERep I t b p → RowH 5 1 v n xs F → n + (textE t).length + 20 ≤ 140737488355328 →
    FunM Tryd.prog 74 #[evv b p, v] I F (fun v' J F' => RowH 5 1 v' (n + (textE t).length) (xs ++ bcs (textE t)) F')
  | .leaf m, _, _, _, _, _, _, _, ht, hT, h, hrow, hlim => appendText_leaf hT h hrow ht hlim
  | .node m l r, _, _, _, _, _, _, _, ht, hT, h, hrow, hlim => by
    have ht1 : m + max l.top r.top < 18446744073709551616 := ht
    exact appendText_node hT h hrow ht hlim (appendText_c l (by omega)) (appendText_c r (by omega))

set_option maxHeartbeats 1000000 in
theorem text_c {I : IM} {t : E} {b : Nat} {p : Option Addr} (hT : Tab I) (h : ERep I t b p) (ht : t.top < 18446744073709551616) (hlim : (textE t).length ≤ 1000000000) : Fun Tryd.prog 25 #[evv b p] I (fun v J => v = .string ⟨(textE t).toArray⟩) := by
  refine enter_rule 6 [(0, .agg #[.int .u64 ((b : Nat) : Int), .pointer p])] Tryd.func25 rfl (by kernel_rfl) ?_
  intro w s
  refine wp_seq ?_
  refine region_rule ?_
  refine ops_rule (C := []) [] [] 2 [] 1 (fun φ1 => [(2, .string ⟨#[]⟩), (1, .pointer (some ⟨(φ1 0), 0, none⟩))]) (fun φ1 => [((φ1 0), .cells #[.int .u64 ((b : Nat) : Int), .pointer p] 27)]) (fun φ1 => []) s trivial (fun φ1 => by kernel_rfl) ?_
  intro φ1 w1 s
  refine ops_done (by kernel_rfl) ?_
  refine wp_seq ?_
  refine region_rule ?_
  refine ops_rule (C := []) [((φ1 0), .cells #[.int .u64 ((b : Nat) : Int), .pointer p] 27)] [] 1 [.o 0, .o 0] 0 (fun φ2 => [(3, .agg #[.int .u64 ((b : Nat) : Int), .pointer p])]) (fun φ2 => [((φ1 0), .cells #[.int .u64 ((b : Nat) : Int), .pointer p] 27)]) (fun φ2 => [(φ1 0), (φ1 0)]) s trivial (fun φ2 => by kernel_rfl) ?_
  intro φ2 w2 s
  refine callF_rule (H := [((φ1 0), .cells #[.int .u64 ((b : Nat) : Int), .pointer p] 27)]) (F := []) (some 4) s (appendText_c t ht hT h (RowH.nil 5 1) (by omega)) (by kernel_rfl) ?_
  intro v3 I3 w3 F3 le3 h3 s
  replace hT := Tab.mono le3 hT
  replace h := ERep.mono le3 h
  simp only [List.nil_append] at h3
  refine sem_rule (convert 22 9 v3) (some 5) (.string ⟨(textE t).toArray⟩) (by kernel_rfl) (run_rowString s h3) ?_
  refine ops_rule (C := []) [((φ1 0), .cells #[.int .u64 ((b : Nat) : Int), .pointer p] 27)] F3 1 [] 0 (fun φ5 => [(2, .string ⟨(textE t).toArray⟩)]) (fun φ5 => [((φ1 0), .cells #[.int .u64 ((b : Nat) : Int), .pointer p] 27)]) (fun φ5 => []) s trivial (fun φ5 => by kernel_rfl) ?_
  intro φ5 w5 s
  refine ops_done (by kernel_rfl) ?_
  refine wp_ret ?_
  refine ret_rule (C := []) [((φ1 0), .cells #[.int .u64 ((b : Nat) : Int), .pointer p] 27)] F3 (.string ⟨(textE t).toArray⟩) [] [] s trivial (by kernel_rfl) ?_
  exact ⟨_, _, _, rfl, s, rfl⟩

end Go.Proofs.YtgdickihjaomjaaDoor
/- The program's ids. -/
set_option linter.all false
set_option maxRecDepth 100000
namespace Go.Proofs.YtgdickihjaomjaaDoor
open Go.RowKit Go.Sep

inductive T where
  | zero | one | node (l r : T)
  deriving DecidableEq
def T.depth : T → Nat
  | .node l r => 1 + max l.depth r.depth
  | _ => 0
def T.isZero : T → Bool
  | .zero => true
  | _ => false
def T.left : T → T
  | .node l _ => l
  | t => t
def T.right : T → T
  | .node _ r => r
  | t => t
def T.mk : T → T → T
  | .zero, .zero => .zero
  | .one, .one => .one
  | l, r => .node l r
def TRep (I : IM) : T → Bool → Option Addr → Prop
  | .zero, b, p => b = false ∧ p = none
  | .one, b, p => b = true ∧ p = none
  | .node l r, b, p => b = false ∧ ∃ k bl pl br pr, p = some ⟨k, 0, none⟩ ∧
      I k = some (.cells #[.bool bl, .pointer pl, .bool br, .pointer pr, .int .i64 (((T.node l r).depth : Nat) : Int)] 160) ∧ TRep I l bl pl ∧ TRep I r br pr
theorem TRep.mono {I J : IM} (le : I.Le J) : ∀ {t : T} {b : Bool} {p : Option Addr}, TRep I t b p → TRep J t b p
  | .zero, _, _, h => h
  | .one, _, _, h => h
  | .node _ _, _, _, ⟨hb, k, bl, pl, br, pr, hp, hk, hl, hr⟩ => ⟨hb, k, bl, pl, br, pr, hp, le _ _ hk, hl.mono le, hr.mono le⟩
theorem TRep.z (I : IM) : TRep I .zero false none := ⟨rfl, rfl⟩
theorem TRep.o (I : IM) : TRep I .one true none := ⟨rfl, rfl⟩

end Go.Proofs.YtgdickihjaomjaaDoor
/- The program's ids: cut, Split, Covers, Same, Disjoint, union, Sum, Text. -/
set_option linter.all false
set_option maxRecDepth 100000
namespace Go.Proofs.YtgdickihjaomjaaDoor
open Go.RowKit Go.Sep

theorem T.mk_depth (l r : T) : (T.mk l r).depth ≤ 1 + max l.depth r.depth := by
  cases l <;> cases r <;> simp [T.mk, T.depth]
def cutT : T → T × T
  | .zero => (.zero, .zero)
  | .one => (T.mk .one .zero, T.mk .zero .one)
  | .node l r => if l.isZero = true then (T.mk .zero (cutT r).1, T.mk .zero (cutT r).2) else if r.isZero = true then (T.mk (cutT l).1 .zero, T.mk (cutT l).2 .zero) else (T.mk l .zero, T.mk .zero r)
end Go.Proofs.YtgdickihjaomjaaDoor
/- The program's stamps. -/
set_option linter.all false
set_option maxRecDepth 100000
namespace Go.Proofs.YtgdickihjaomjaaDoor
open Go.RowKit Go.Sep

def leafR (n : Nat) : E × Nat := if 1048576 < n then (.leaf 0, 4) else (.leaf n, 0)
theorem leafR_c {I : IM} {n : Nat} : Fun Tryd.prog 33 #[.int .u64 ((n : Nat) : Int)] I (fun v J => ∃ b p, v = .tuple #[evv b p, .int .i64 (((leafR n).2 : Nat) : Int)] ∧ ERep J (leafR n).1 b p) := by
  by_cases h : 1048576 < n
  · rw [leafR, if_pos h]; exact (leafNo_c h).mono fun v J _ hv => ⟨0, none, hv, rfl, rfl⟩
  · rw [leafR, if_neg h]; exact (leafOk_c (by omega)).mono fun v J _ hv => ⟨n, none, hv, rfl, rfl⟩

@[simp] theorem E.top_leaf (n : Nat) : (E.leaf n).top = n := rfl
@[simp] theorem E.depth_leaf (n : Nat) : (E.leaf n).depth = 0 := rfl

end Go.Proofs.YtgdickihjaomjaaDoor
/- The program's stamps: Fill, Grow, Tick, Fork, Join. -/
set_option linter.all false
set_option maxRecDepth 100000
namespace Go.Proofs.YtgdickihjaomjaaDoor
open Go.RowKit Go.Sep

theorem T.half_depth (t : T) : t.left.depth ≤ t.depth ∧ t.right.depth ≤ t.depth := by
  cases t with
  | zero => exact ⟨Nat.le_refl _, Nat.le_refl _⟩
  | one => exact ⟨Nat.le_refl _, Nat.le_refl _⟩
  | node l r => exact ⟨show l.depth ≤ 1 + max l.depth r.depth by omega, show r.depth ≤ 1 + max l.depth r.depth by omega⟩
end Go.Proofs.YtgdickihjaomjaaDoor
/- The document's example. -/
set_option linter.all false
set_option maxRecDepth 100000
namespace Go.Proofs.YtgdickihjaomjaaDoor
open Go.RowKit Go.Sep

theorem textK_c {I : IM} {t : E} {b : Nat} {p : Option Addr} {l : List UInt8} (hl : textE t = l) (hT : Tab I) (h : ERep I t b p) (ht : t.top < 18446744073709551616) (hlim : l.length ≤ 1000000000) : Fun Tryd.prog 25 #[evv b p] I (fun v J => v = .string ⟨l.toArray⟩) := by
  subst hl; exact text_c hT h ht hlim

end Go.Proofs.YtgdickihjaomjaaDoor
/- The limits of stamps. -/
set_option linter.all false
set_option maxRecDepth 100000
namespace Go.Proofs.YtgdickihjaomjaaDoor
open Go.RowKit Go.Sep

/-- An id with one part alone, so deep. -/
def Spine : Nat → T → Prop
  | 0, i => i = .one
  | k + 1, i => ∃ s, Spine k s ∧ (i = .node s .zero ∨ i = .node .zero s)
theorem Spine.nz : ∀ {k : Nat} {i : T}, Spine k i → i.isZero = false
  | 0, _, h => by rw [show _ = _ from h]; rfl
  | k + 1, _, ⟨s, hs, h⟩ => by rcases h with rfl | rfl <;> rfl
theorem Spine.depth : ∀ {k : Nat} {i : T}, Spine k i → i.depth = k
  | 0, _, h => by rw [show _ = _ from h]; rfl
  | k + 1, _, ⟨s, hs, h⟩ => by
    have := hs.depth
    rcases h with rfl | rfl
    · show 1 + max s.depth 0 = k + 1; omega
    · show 1 + max 0 s.depth = k + 1; omega
theorem mk_left {s : T} (h : s.isZero = false) : T.mk s .zero = .node s .zero := by cases s <;> simp_all [T.isZero, T.mk]
theorem mk_right {s : T} (h : s.isZero = false) : T.mk .zero s = .node .zero s := by cases s <;> simp_all [T.isZero, T.mk]
theorem Spine.cut : ∀ {k : Nat} {i : T}, Spine k i → Spine (k + 1) (cutT i).1 ∧ Spine (k + 1) (cutT i).2
  | 0, _, h => by
    rw [show _ = _ from h]
    exact ⟨⟨.one, rfl, .inl rfl⟩, ⟨.one, rfl, .inr rfl⟩⟩
  | k + 1, _, ⟨s, hs, h⟩ => by
    have ih := hs.cut
    have hz := hs.nz
    rcases h with rfl | rfl
    · have : cutT (.node s .zero) = (T.mk (cutT s).1 .zero, T.mk (cutT s).2 .zero) := by
        rw [cutT, if_neg (by rw [hz]; simp), if_pos (show T.zero.isZero = true from rfl)]
      rw [this, mk_left ih.1.nz, mk_left ih.2.nz]
      exact ⟨⟨_, ih.1, .inl rfl⟩, ⟨_, ih.2, .inl rfl⟩⟩
    · have : cutT (.node .zero s) = (T.mk .zero (cutT s).1, T.mk .zero (cutT s).2) := by
        rw [cutT, if_pos (show T.zero.isZero = true from rfl)]
      rw [this, mk_right ih.1.nz, mk_right ih.2.nz]
      exact ⟨⟨_, ih.1, .inr rfl⟩, ⟨_, ih.2, .inr rfl⟩⟩
end Go.Proofs.YtgdickihjaomjaaDoor
/- The document's trees, and their texts. -/
set_option linter.all false
set_option maxRecDepth 100000
namespace Go.Proofs.YtgdickihjaomjaaDoor
open Go.RowKit Go.Sep

def RT (I : IM) : T → Nat → Prop
  | .zero, k => I k = some (.cells #[.int .i64 0, .pointer none, .pointer none] 84)
  | .one, k => I k = some (.cells #[.int .i64 1, .pointer none, .pointer none] 84)
  | .node l r, k => ∃ kl kr, I k = some (.cells #[.int .i64 2, .pointer (some ⟨kl, 0, none⟩), .pointer (some ⟨kr, 0, none⟩)] 84) ∧ RT I l kl ∧ RT I r kr
def RE (I : IM) : E → Nat → Prop
  | .leaf n, k => I k = some (.cells #[.int .u64 ((n : Nat) : Int), .pointer none, .pointer none] 112)
  | .node n l r, k => ∃ kl kr, I k = some (.cells #[.int .u64 ((n : Nat) : Int), .pointer (some ⟨kl, 0, none⟩), .pointer (some ⟨kr, 0, none⟩)] 112) ∧ RE I l kl ∧ RE I r kr
theorem RT.mono {I J : IM} (le : I.Le J) : ∀ {t : T} {k : Nat}, RT I t k → RT J t k
  | .zero, _, h => le _ _ h
  | .one, _, h => le _ _ h
  | .node _ _, _, ⟨kl, kr, h, hl, hr⟩ => ⟨kl, kr, le _ _ h, hl.mono le, hr.mono le⟩
theorem RE.mono {I J : IM} (le : I.Le J) : ∀ {e : E} {k : Nat}, RE I e k → RE J e k
  | .leaf _, _, h => le _ _ h
  | .node _ _ _, _, ⟨kl, kr, h, hl, hr⟩ => ⟨kl, kr, le _ _ h, hl.mono le, hr.mono le⟩
theorem digit_at {i : Nat} (h : i < 10) : (⟨#[48, 49, 50, 51, 52, 53, 54, 55, 56, 57]⟩ : ByteArray).extract i (i + 1) = ⟨[UInt8.ofNat (48 + i)].toArray⟩ := by
  have : ∀ i, i < 10 → (⟨#[48, 49, 50, 51, 52, 53, 54, 55, 56, 57]⟩ : ByteArray).extract i (i + 1) = ⟨[UInt8.ofNat (48 + i)].toArray⟩ := by decide
  exact this i h
theorem decDigits_small {n : Nat} (h : n < 10) : Lib.decDigits n = [UInt8.ofNat (48 + n % 10)] := by
  rw [Lib.decDigits, dif_pos h, Nat.mod_eq_of_lt h]
theorem decDigits_big {n : Nat} (h : ¬ n < 10) : Lib.decDigits n = Lib.decDigits (n / 10) ++ [UInt8.ofNat (48 + n % 10)] := by
  rw [Lib.decDigits, dif_neg h]

theorem digits_le (n : Nat) (h : n < 18446744073709551616) : (Lib.decDigits n).length ≤ 1000 := by
  have : ∀ (f n : Nat), n < 10 ^ f → (Lib.decDigits n).length ≤ f + 1 := by
    intro f
    induction f with
    | zero => intro n h; rw [decDigits_small (by omega)]; simp
    | succ f ih =>
      intro n h
      by_cases hn : n < 10
      · rw [decDigits_small hn]; simp
      · rw [decDigits_big hn]
        have := ih (n / 10) (by rw [Nat.pow_succ] at h; omega)
        simp only [List.length_append, List.length_cons, List.length_nil]; omega
  have := this 20 n (by omega)
  omega

set_option maxHeartbeats 1000000 in
theorem dec_step {I : IM} {n : Nat} (hn : n < 18446744073709551616) (ih : ¬ n < 10 → ∀ {J : IM}, Fun Tryd.prog 73 #[.int .u64 ((n / 10 : Nat) : Int)] J (fun v _ => v = .string ⟨(Lib.decDigits (n / 10)).toArray⟩)) : Fun Tryd.prog 73 #[.int .u64 ((n : Nat) : Int)] I (fun v J => v = .string ⟨(Lib.decDigits n).toArray⟩) := by
  refine enter_rule 18 [(0, .int .u64 ((n : Nat) : Int))] Tryd.func73 rfl (by kernel_rfl) ?_
  intro w s
  refine wp_seq ?_
  refine region_rule ?_
  refine ops_rule (C := []) [] [] 1 [] 0 (fun φ1 => [(2, .string ⟨#[]⟩)]) (fun φ1 => []) (fun φ1 => []) s trivial (fun φ1 => by kernel_rfl) ?_
  intro φ1 w1 s
  refine ops_done (by kernel_rfl) ?_
  refine wp_seq ?_
  refine region_rule ?_
  refine ops_rule (C := []) [] [] 5 [] 0 (fun φ2 => [(8, .int .u64 (IntKind.wrap .u64 ((Int.tmod ((n : Nat) : Int) ((10 : Nat) : Int)) + ((1 : Nat) : Int)))), (7, .int .u64 (Int.tmod ((n : Nat) : Int) ((10 : Nat) : Int))), (6, .int .u64 ((n : Nat) : Int)), (5, .int .u64 (Int.tmod ((n : Nat) : Int) ((10 : Nat) : Int))), (4, .int .u64 ((n : Nat) : Int))]) (fun φ2 => []) (fun φ2 => []) s trivial (fun φ2 => by kernel_rfl) ?_
  intro φ2 w2 s
  rw [nat_rem (a := n) (b := 10)]
  rw [nat_addU (a := (n % 10)) (b := 1) (by omega)]
  refine sem_rule (Instr.sliceAt 9 (.string ⟨#[48, 49, 50, 51, 52, 53, 54, 55, 56, 57]⟩) (some (.int .u64 ((n % 10 : Nat) : Int))) (some (.int .u64 (((n % 10) + 1 : Nat) : Int))) none) (some 9) (.string ⟨([UInt8.ofNat (48 + n % 10)]).toArray⟩) (by kernel_rfl) (by rw [← digit_at (show n % 10 < 10 by omega)]; exact run_sliceStrK (by kernel_rfl) (by omega) (by show n % 10 + 1 ≤ 10; omega)) ?_
  refine ops_rule (C := []) [] [] 1 [] 0 (fun φ3 => [(3, .string ⟨([UInt8.ofNat (48 + n % 10)]).toArray⟩)]) (fun φ3 => []) (fun φ3 => []) s trivial (fun φ3 => by kernel_rfl) ?_
  intro φ3 w3 s
  refine ops_done (by kernel_rfl) ?_
  refine wp_seq ?_
  refine wp_seq ?_
  refine region_rule ?_
  refine ops_rule (C := []) [] [] 2 [] 0 (fun φ4 => [(11, .bool (decide (((n : Nat) : Int) < ((10 : Nat) : Int)))), (10, .int .u64 ((n : Nat) : Int))]) (fun φ4 => []) (fun φ4 => []) s trivial (fun φ4 => by kernel_rfl) ?_
  intro φ4 w4 s
  rw [nat_lss (a := n) (b := 10)]
  refine ops_done (by kernel_rfl) ?_
  rcases Bool.eq_false_or_eq_true (decide (n < 10)) with hc5 | hc5
  ·
    rw [hc5]
    refine cond_true_rule (b := true) (by kernel_rfl) rfl ?_
    refine wp_seq ?_
    refine region_rule ?_
    refine ops_rule (C := []) [] [] 2 [] 0 (fun φ6 => [(2, .string ⟨([UInt8.ofNat (48 + n % 10)]).toArray⟩), (12, .string ⟨([UInt8.ofNat (48 + n % 10)]).toArray⟩)]) (fun φ6 => []) (fun φ6 => []) s trivial (fun φ6 => by kernel_rfl) ?_
    intro φ6 w6 s
    refine ops_done (by kernel_rfl) ?_
    refine wp_ret ?_
    refine ret_rule (C := []) [] [] (.string ⟨([UInt8.ofNat (48 + n % 10)]).toArray⟩) [] [] s trivial (by kernel_rfl) ?_
    exact ⟨_, _, _, rfl, s, (by rw [decDigits_small (of_decide_eq_true hc5)])⟩
  ·
    rw [hc5]
    refine cond_false_rule (b := false) (by kernel_rfl) rfl ?_
    refine wp_skip ?_
    refine wp_seq ?_
    refine region_rule ?_
    refine ops_rule (C := []) [] [] 2 [] 0 (fun φ7 => [(14, .int .u64 (IntKind.wrap .u64 (Int.tdiv ((n : Nat) : Int) ((10 : Nat) : Int)))), (13, .int .u64 ((n : Nat) : Int))]) (fun φ7 => []) (fun φ7 => []) s trivial (fun φ7 => by kernel_rfl) ?_
    intro φ7 w7 s
    rw [nat_quoU (a := n) (b := 10) (by omega)]
    refine call_rule (some 15) s (ih (of_decide_eq_false hc5)) (by kernel_rfl) ?_
    intro v8 I8 w8 le8 h8 s
    obtain rfl := h8
    refine ops_rule (C := []) [] [] 1 [] 0 (fun φ9 => [(16, .string ⟨([UInt8.ofNat (48 + n % 10)]).toArray⟩)]) (fun φ9 => []) (fun φ9 => []) s trivial (fun φ9 => by kernel_rfl) ?_
    intro φ9 w9 s
    refine sem_rule (binOp .add 9 (.string ⟨(Lib.decDigits (n / 10)).toArray⟩) (.string ⟨([UInt8.ofNat (48 + n % 10)]).toArray⟩)) (some 17) (.string ⟨(Lib.decDigits (n / 10) ++ [UInt8.ofNat (48 + n % 10)]).toArray⟩) (by kernel_rfl) (run_cat (x := Lib.decDigits (n / 10)) (y := [UInt8.ofNat (48 + n % 10)]) (by have hq := Nat.div_le_self n 10; have := digits_le (n / 10) (by omega); simp only [List.length_append, List.length_cons, List.length_nil]; omega)) ?_
    refine ops_rule (C := []) [] [] 1 [] 0 (fun φ10 => [(2, .string ⟨(Lib.decDigits (n / 10) ++ [UInt8.ofNat (48 + n % 10)]).toArray⟩)]) (fun φ10 => []) (fun φ10 => []) s trivial (fun φ10 => by kernel_rfl) ?_
    intro φ10 w10 s
    refine ops_done (by kernel_rfl) ?_
    refine wp_ret ?_
    refine ret_rule (C := []) [] [] (.string ⟨(Lib.decDigits (n / 10) ++ [UInt8.ofNat (48 + n % 10)]).toArray⟩) [] [] s trivial (by kernel_rfl) ?_
    exact ⟨_, _, _, rfl, s, (by rw [decDigits_big (of_decide_eq_false hc5)])⟩

theorem dec_c {I : IM} (n : Nat) (hn : n < 18446744073709551616) : Fun Tryd.prog 73 #[.int .u64 ((n : Nat) : Int)] I (fun v _ => v = .string ⟨(Lib.decDigits n).toArray⟩) := by
  induction n using Nat.strongRecOn generalizing I with
  | ind n ih => exact dec_step hn fun h {J} => ih (n / 10) (by omega) (by omega)

end Go.Proofs.YtgdickihjaomjaaDoor
/- The document's events; to the program's own. -/
set_option linter.all false
set_option maxRecDepth 100000
namespace Go.Proofs.YtgdickihjaomjaaDoor
open Go.RowKit Go.Sep

def T.nf : T → Prop
  | .node l r => l.nf ∧ r.nf ∧ T.mk l r = .node l r
  | _ => True
def E.nf : E → Prop
  | .node n l r => l.nf ∧ r.nf ∧ E.mk n l r = .node n l r
  | _ => True
def E.minE : E → Nat
  | .leaf n => n
  | .node n l r => n + min l.minE r.minE
theorem E.minE_le : ∀ e : E, e.minE ≤ e.top
  | .leaf n => Nat.le_refl n
  | .node n l r => by
    have := E.minE_le l
    have := E.minE_le r
    show n + min l.minE r.minE ≤ n + max l.top r.top
    omega
theorem E.mk_iff {n : Nat} {l r : E} : E.mk n l r = .node n l r ↔ ¬ (l.isLeaf = true ∧ r.isLeaf = true ∧ l.base = r.base) ∧ min l.base r.base = 0 := by
  unfold E.mk
  constructor
  · intro h
    split at h
    · cases h
    · rename_i hc
      refine ⟨hc, ?_⟩
      have : n + min l.base r.base = n := congrArg E.base h
      omega
  · rintro ⟨hc, hm⟩
    have hdn : ∀ e : E, E.dn 0 e = e := fun e => by cases e <;> rfl
    rw [if_neg hc, hm, hdn, hdn]; rfl
theorem E.min_base : ∀ {e : E}, e.nf → e.minE = e.base
  | .leaf n, _ => rfl
  | .node n l r, ⟨hl, hr, h⟩ => by
    have := (E.mk_iff.1 h).2
    show n + min l.minE r.minE = n
    rw [E.min_base hl, E.min_base hr]; omega
set_option maxHeartbeats 2000000 in
theorem etext_step {I : IM} {e : E} {k : Nat} (h : RE I e k) (ht : e.top < 18446744073709551616) (hlim : (textE e).length ≤ 1000000000) (ih : ∀ n l r, e = .node n l r → (∀ {J : IM} {k : Nat}, RE J l k → l.top < 18446744073709551616 → (textE l).length ≤ 1000000000 → Fun Tryd.prog 24 #[.pointer (some ⟨k, 0, none⟩)] J (fun v J => v = .string ⟨(textE l).toArray⟩)) ∧ (∀ {J : IM} {k : Nat}, RE J r k → r.top < 18446744073709551616 → (textE r).length ≤ 1000000000 → Fun Tryd.prog 24 #[.pointer (some ⟨k, 0, none⟩)] J (fun v J => v = .string ⟨(textE r).toArray⟩))) : Fun Tryd.prog 24 #[.pointer (some ⟨k, 0, none⟩)] I (fun v J => v = .string ⟨(textE e).toArray⟩) := by
  cases e with
  | leaf n =>
    have h0 : RE _ (E.leaf n) k := h
    refine enter_rule 34 [(0, .pointer (some ⟨k, 0, none⟩))] Tryd.func24 rfl (by kernel_rfl) ?_
    intro w s
    refine wp_seq ?_
    refine region_rule ?_
    refine ops_rule (C := []) [] [] 1 [] 0 (fun φ1 => [(2, .string ⟨#[]⟩)]) (fun φ1 => []) (fun φ1 => []) s trivial (fun φ1 => by kernel_rfl) ?_
    intro φ1 w1 s
    refine ops_done (by kernel_rfl) ?_
    refine wp_seq ?_
    refine wp_seq ?_
    refine region_rule ?_
    refine ops_rule (C := [(k, .cells #[.int .u64 ((n : Nat) : Int), .pointer none, .pointer none] 112)]) [] [] 5 [.c 0] 0 (fun φ2 => [(7, .bool true), (6, .pointer none), (5, .pointer (some ⟨k, 1, none⟩)), (4, .pointer (some ⟨k, 0, none⟩)), (3, .pointer (some ⟨k, 0, none⟩))]) (fun φ2 => []) (fun φ2 => [k]) s ⟨h, trivial⟩ (fun φ2 => by kernel_rfl) ?_
    intro φ2 w2 s
    refine ops_done (by kernel_rfl) ?_
    refine cond_true_rule (b := true) (by kernel_rfl) rfl ?_
    refine wp_seq ?_
    refine region_rule ?_
    refine ops_rule (C := [(k, .cells #[.int .u64 ((n : Nat) : Int), .pointer none, .pointer none] 112)]) [] [] 4 [.c 0] 0 (fun φ3 => [(11, .int .u64 ((n : Nat) : Int)), (10, .pointer (some ⟨k, 0, none⟩)), (9, .pointer (some ⟨k, 0, none⟩)), (8, .pointer (some ⟨k, 0, none⟩))]) (fun φ3 => []) (fun φ3 => [k]) s ⟨h, trivial⟩ (fun φ3 => by kernel_rfl) ?_
    intro φ3 w3 s
    refine call_rule (some 12) s (dec_c n (by first | exact ht | omega)) (by kernel_rfl) ?_
    intro v4 I4 w4 le4 h4 s
    replace h0 := RE.mono le4 h0
    replace h := le4 _ _ h
    obtain rfl := h4
    refine ops_rule (C := []) [] [] 1 [] 0 (fun φ5 => [(2, .string ⟨(Lib.decDigits n).toArray⟩)]) (fun φ5 => []) (fun φ5 => []) s trivial (fun φ5 => by kernel_rfl) ?_
    intro φ5 w5 s
    refine ops_done (by kernel_rfl) ?_
    refine wp_ret ?_
    refine ret_rule (C := []) [] [] (.string ⟨(Lib.decDigits n).toArray⟩) [] [] s trivial (by kernel_rfl) ?_
    exact ⟨_, _, _, rfl, s, rfl⟩
  | node n l r =>
    have h0 : RE _ (E.node n l r) k := h
    obtain ⟨kl, kr, hk, hl, hr⟩ := h
    obtain ⟨ihl, ihr⟩ := ih n l r rfl
    clear ih
    have ht1 : n + max l.top r.top < 18446744073709551616 := ht
    have hlim1 : (Lib.decDigits n).length + (textE l).length + (textE r).length + 4 ≤ 1000000000 := by simp only [textE, List.length_append, List.length_cons, List.length_nil] at hlim; omega
    refine enter_rule 34 [(0, .pointer (some ⟨k, 0, none⟩))] Tryd.func24 rfl (by kernel_rfl) ?_
    intro w s
    refine wp_seq ?_
    refine region_rule ?_
    refine ops_rule (C := []) [] [] 1 [] 0 (fun φ1 => [(2, .string ⟨#[]⟩)]) (fun φ1 => []) (fun φ1 => []) s trivial (fun φ1 => by kernel_rfl) ?_
    intro φ1 w1 s
    refine ops_done (by kernel_rfl) ?_
    refine wp_seq ?_
    refine wp_seq ?_
    refine region_rule ?_
    refine ops_rule (C := [(k, .cells #[.int .u64 ((n : Nat) : Int), .pointer (some ⟨kl, 0, none⟩), .pointer (some ⟨kr, 0, none⟩)] 112)]) [] [] 5 [.c 0] 0 (fun φ2 => [(7, .bool false), (6, .pointer (some ⟨kl, 0, none⟩)), (5, .pointer (some ⟨k, 1, none⟩)), (4, .pointer (some ⟨k, 0, none⟩)), (3, .pointer (some ⟨k, 0, none⟩))]) (fun φ2 => []) (fun φ2 => [k]) s ⟨hk, trivial⟩ (fun φ2 => by kernel_rfl) ?_
    intro φ2 w2 s
    refine ops_done (by kernel_rfl) ?_
    refine cond_false_rule (b := false) (by kernel_rfl) rfl ?_
    refine wp_skip ?_
    refine wp_seq ?_
    refine draw_rule (C := [(k, .cells #[.int .u64 ((n : Nat) : Int), .pointer (some ⟨kl, 0, none⟩), .pointer (some ⟨kr, 0, none⟩)] 112)]) ⟨(fun φ3 xs3 => [.look 0 [] [], .look 0 [] [], .look 0 [] [], .look 0 [.c 0] [k], .call 73 #[.int .u64 ((n : Nat) : Int)], .ran (binOp .add 9 (.string ⟨#[40]⟩) (.string ⟨(Lib.decDigits n).toArray⟩)), .ran (binOp .add 9 (.string ⟨([40] ++ (Lib.decDigits n)).toArray⟩) (.string ⟨#[44]⟩)), .look 0 [] [], .look 0 [] [], .look 0 [] [], .look 0 [.c 0] [k], .call 24 #[.pointer (some ⟨kl, 0, none⟩)], .ran (binOp .add 9 (.string ⟨([40] ++ (Lib.decDigits n) ++ [44]).toArray⟩) (.string ⟨(textE l).toArray⟩)), .ran (binOp .add 9 (.string ⟨([40] ++ (Lib.decDigits n) ++ [44] ++ (textE l)).toArray⟩) (.string ⟨#[44]⟩)), .look 0 [] [], .look 0 [] [], .look 0 [] [], .look 0 [.c 0] [k], .call 24 #[.pointer (some ⟨kr, 0, none⟩)], .ran (binOp .add 9 (.string ⟨([40] ++ (Lib.decDigits n) ++ [44] ++ (textE l) ++ [44]).toArray⟩) (.string ⟨(textE r).toArray⟩)), .ran (binOp .add 9 (.string ⟨([40] ++ (Lib.decDigits n) ++ [44] ++ (textE l) ++ [44] ++ (textE r)).toArray⟩) (.string ⟨#[41]⟩)), .look 0 [] []]), (fun φ3 xs3 => [.pointer (some ⟨k, 0, none⟩), .pointer (some ⟨k, 0, none⟩), .pointer (some ⟨k, 0, none⟩), .int .u64 ((n : Nat) : Int), .string ⟨(Lib.decDigits n).toArray⟩, .string ⟨([40] ++ (Lib.decDigits n)).toArray⟩, .string ⟨([40] ++ (Lib.decDigits n) ++ [44]).toArray⟩, .pointer (some ⟨k, 0, none⟩), .pointer (some ⟨k, 0, none⟩), .pointer (some ⟨k, 1, none⟩), .pointer (some ⟨kl, 0, none⟩), .string ⟨(textE l).toArray⟩, .string ⟨([40] ++ (Lib.decDigits n) ++ [44] ++ (textE l)).toArray⟩, .string ⟨([40] ++ (Lib.decDigits n) ++ [44] ++ (textE l) ++ [44]).toArray⟩, .pointer (some ⟨k, 0, none⟩), .pointer (some ⟨k, 0, none⟩), .pointer (some ⟨k, 2, none⟩), .pointer (some ⟨kr, 0, none⟩), .string ⟨(textE r).toArray⟩, .string ⟨([40] ++ (Lib.decDigits n) ++ [44] ++ (textE l) ++ [44] ++ (textE r)).toArray⟩, .string ⟨([40] ++ (Lib.decDigits n) ++ [44] ++ (textE l) ++ [44] ++ (textE r) ++ [41]).toArray⟩, .string ⟨([40] ++ (Lib.decDigits n) ++ [44] ++ (textE l) ++ [44] ++ (textE r) ++ [41]).toArray⟩]), (fun φ3 xs3 => [[]]), (fun φ3 xs3 => [[default, default, default, default, default, default, default, default, default, default, default, default, default, default, default, default, default, default, default, default, default, default]]), [], [1, 1, 1, 1, 3, 6, 6, 1, 1, 1, 1, 3, 6, 6, 1, 1, 1, 1, 3, 6, 6, 1]⟩ (fun j => ([MP.any, MP.any, MP.any, MP.any, MP.any, MP.any, MP.any, MP.any, MP.any, MP.any, MP.any, MP.any, MP.any, MP.any, MP.any, MP.any, MP.any, MP.any, MP.any, MP.any, MP.any, MP.any] : List MP).getD j MP.any) [4, 11, 18] [] [5, 6, 12, 13, 19, 20] (fun φ3 xs3 => []) (fun φ3 xs3 => [(13, .pointer (some ⟨k, 0, none⟩)), (14, .pointer (some ⟨k, 0, none⟩)), (15, .pointer (some ⟨k, 0, none⟩)), (16, .int .u64 ((n : Nat) : Int)), (17, .string ⟨(Lib.decDigits n).toArray⟩), (18, .string ⟨([40] ++ (Lib.decDigits n)).toArray⟩), (19, .string ⟨([40] ++ (Lib.decDigits n) ++ [44]).toArray⟩), (20, .pointer (some ⟨k, 0, none⟩)), (21, .pointer (some ⟨k, 0, none⟩)), (22, .pointer (some ⟨k, 1, none⟩)), (23, .pointer (some ⟨kl, 0, none⟩)), (24, .string ⟨(textE l).toArray⟩), (25, .string ⟨([40] ++ (Lib.decDigits n) ++ [44] ++ (textE l)).toArray⟩), (26, .string ⟨([40] ++ (Lib.decDigits n) ++ [44] ++ (textE l) ++ [44]).toArray⟩), (27, .pointer (some ⟨k, 0, none⟩)), (28, .pointer (some ⟨k, 0, none⟩)), (29, .pointer (some ⟨k, 2, none⟩)), (30, .pointer (some ⟨kr, 0, none⟩)), (31, .string ⟨(textE r).toArray⟩), (32, .string ⟨([40] ++ (Lib.decDigits n) ++ [44] ++ (textE l) ++ [44] ++ (textE r)).toArray⟩), (33, .string ⟨([40] ++ (Lib.decDigits n) ++ [44] ++ (textE l) ++ [44] ++ (textE r) ++ [41]).toArray⟩), (2, .string ⟨([40] ++ (Lib.decDigits n) ++ [44] ++ (textE l) ++ [44] ++ (textE r) ++ [41]).toArray⟩)]) (fun φ3 xs3 => []) s ⟨hk, trivial⟩ (by kernel_rfl) (by kernel_rfl) (fun _ _ => by kernel_rfl) (fun _ _ => by kernel_rfl) ⟨fun _ _ => by kernel_rfl, fun _ _ => by kernel_rfl, fun _ _ => by kernel_rfl, fun _ _ => by kernel_rfl⟩ (fun _ _ _ => by kernel_rfl) (fun _ _ => by kernel_rfl) (fun _ _ => by kernel_rfl) (fun _ _ => by kernel_rfl) (fun _ _ => by kernel_rfl) (fun _ _ => by kernel_rfl) trivial ⟨kcast (A := ∀ (φ3 : Nat → Nat) (xs3 : Xs) (J : IM) (w : World), I.Le J → J.Sub w → ((binOp .add 9 (.string ⟨#[40]⟩) (.string ⟨(Lib.decDigits n).toArray⟩)) : Sem Value).run Tryd.prog w = .ok (.string ⟨([40] ++ (Lib.decDigits n)).toArray⟩) w) (by kernel_rfl) (fun φ3 xs3 J w hJ hS => run_cat (x := [40]) (y := Lib.decDigits n) (by simp only [List.length_append, List.length_cons, List.length_nil]; omega)), ⟨kcast (A := ∀ (φ3 : Nat → Nat) (xs3 : Xs) (J : IM) (w : World), I.Le J → J.Sub w → ((binOp .add 9 (.string ⟨([40] ++ (Lib.decDigits n)).toArray⟩) (.string ⟨#[44]⟩)) : Sem Value).run Tryd.prog w = .ok (.string ⟨([40] ++ (Lib.decDigits n) ++ [44]).toArray⟩) w) (by kernel_rfl) (fun φ3 xs3 J w hJ hS => run_cat (x := [40] ++ (Lib.decDigits n)) (y := [44]) (by simp only [List.length_append, List.length_cons, List.length_nil]; omega)), ⟨kcast (A := ∀ (φ3 : Nat → Nat) (xs3 : Xs) (J : IM) (w : World), I.Le J → J.Sub w → ((binOp .add 9 (.string ⟨([40] ++ (Lib.decDigits n) ++ [44]).toArray⟩) (.string ⟨(textE l).toArray⟩)) : Sem Value).run Tryd.prog w = .ok (.string ⟨([40] ++ (Lib.decDigits n) ++ [44] ++ (textE l)).toArray⟩) w) (by kernel_rfl) (fun φ3 xs3 J w hJ hS => run_cat (x := [40] ++ (Lib.decDigits n) ++ [44]) (y := textE l) (by simp only [List.length_append, List.length_cons, List.length_nil]; omega)), ⟨kcast (A := ∀ (φ3 : Nat → Nat) (xs3 : Xs) (J : IM) (w : World), I.Le J → J.Sub w → ((binOp .add 9 (.string ⟨([40] ++ (Lib.decDigits n) ++ [44] ++ (textE l)).toArray⟩) (.string ⟨#[44]⟩)) : Sem Value).run Tryd.prog w = .ok (.string ⟨([40] ++ (Lib.decDigits n) ++ [44] ++ (textE l) ++ [44]).toArray⟩) w) (by kernel_rfl) (fun φ3 xs3 J w hJ hS => run_cat (x := [40] ++ (Lib.decDigits n) ++ [44] ++ (textE l)) (y := [44]) (by simp only [List.length_append, List.length_cons, List.length_nil]; omega)), ⟨kcast (A := ∀ (φ3 : Nat → Nat) (xs3 : Xs) (J : IM) (w : World), I.Le J → J.Sub w → ((binOp .add 9 (.string ⟨([40] ++ (Lib.decDigits n) ++ [44] ++ (textE l) ++ [44]).toArray⟩) (.string ⟨(textE r).toArray⟩)) : Sem Value).run Tryd.prog w = .ok (.string ⟨([40] ++ (Lib.decDigits n) ++ [44] ++ (textE l) ++ [44] ++ (textE r)).toArray⟩) w) (by kernel_rfl) (fun φ3 xs3 J w hJ hS => run_cat (x := [40] ++ (Lib.decDigits n) ++ [44] ++ (textE l) ++ [44]) (y := textE r) (by simp only [List.length_append, List.length_cons, List.length_nil]; omega)), ⟨kcast (A := ∀ (φ3 : Nat → Nat) (xs3 : Xs) (J : IM) (w : World), I.Le J → J.Sub w → ((binOp .add 9 (.string ⟨([40] ++ (Lib.decDigits n) ++ [44] ++ (textE l) ++ [44] ++ (textE r)).toArray⟩) (.string ⟨#[41]⟩)) : Sem Value).run Tryd.prog w = .ok (.string ⟨([40] ++ (Lib.decDigits n) ++ [44] ++ (textE l) ++ [44] ++ (textE r) ++ [41]).toArray⟩) w) (by kernel_rfl) (fun φ3 xs3 J w hJ hS => run_cat (x := [40] ++ (Lib.decDigits n) ++ [44] ++ (textE l) ++ [44] ++ (textE r)) (y := [41]) (by simp only [List.length_append, List.length_cons, List.length_nil]; omega)), trivial⟩⟩⟩⟩⟩⟩ (by kernel_rfl) ⟨?c3_4, ?c3_11, ?c3_18, trivial⟩ ?k3
    case c3_4 =>
      refine kcast (A := ∀ (φ3 : Nat → Nat) (xs3 : Xs) (J4_3 : IM), I.Le J4_3 → Fun Tryd.prog 73 #[.int .u64 ((n : Nat) : Int)] J4_3 (fun v J' => ∃ x : UX, v = .string ⟨(Lib.decDigits n).toArray⟩ ∧ (True))) (by kernel_rfl) ?_
      intro φ3 xs3 J4_3 leJ
      exact Fun.mono (dec_c n (by first | exact ht | omega)) (fun v J' _ h => ⟨UX.d, h, trivial⟩)
    case c3_11 =>
      refine kcast (A := ∀ (φ3 : Nat → Nat) (xs3 : Xs) (J11_3 : IM), I.Le J11_3 → (True) → Fun Tryd.prog 24 #[.pointer (some ⟨kl, 0, none⟩)] J11_3 (fun v J' => ∃ x : UX, v = .string ⟨(textE l).toArray⟩ ∧ (True))) (by kernel_rfl) ?_
      intro φ3 xs3 J11_3 leJ
      rintro _
      have hl := RE.mono leJ hl
      exact Fun.mono (ihl hl (by omega) (by omega)) (fun v J' _ h => ⟨UX.d, h, trivial⟩)
    case c3_18 =>
      refine kcast (A := ∀ (φ3 : Nat → Nat) (xs3 : Xs) (J18_3 : IM), I.Le J18_3 → (True) → (True) → Fun Tryd.prog 24 #[.pointer (some ⟨kr, 0, none⟩)] J18_3 (fun v J' => ∃ x : UX, v = .string ⟨(textE r).toArray⟩ ∧ (True))) (by kernel_rfl) ?_
      intro φ3 xs3 J18_3 leJ
      rintro _ _
      have hr := RE.mono leJ hr
      exact Fun.mono (ihr hr (by omega) (by omega)) (fun v J' _ h => ⟨UX.d, h, trivial⟩)
    case k3 =>
      rintro φ3 xs3 I3 w3 le3 s _ _ _
      replace hl := RE.mono le3 hl
      replace hr := RE.mono le3 hr
      replace h0 := RE.mono le3 h0
      replace hk := le3 _ _ hk
      refine wp_ret ?_
      refine ret_rule (C := []) [] [] (.string ⟨([40] ++ (Lib.decDigits n) ++ [44] ++ (textE l) ++ [44] ++ (textE r) ++ [41]).toArray⟩) [] [] s trivial (by kernel_rfl) ?_
      exact ⟨_, _, _, rfl, s, rfl⟩

theorem etext_c : ∀ (e : E) {I : IM} {k : Nat}, RE I e k → e.top < 18446744073709551616 → (textE e).length ≤ 1000000000 → Fun Tryd.prog 24 #[.pointer (some ⟨k, 0, none⟩)] I (fun v _ => v = .string ⟨(textE e).toArray⟩)
  | .leaf n, _, _, h, ht, hl => etext_step h ht hl (fun n l r h => by cases h)
  | .node n l r, _, _, h, ht, hl => etext_step h ht hl (fun n' l' r' e => by
      cases e
      exact ⟨fun {J} {k} a b c => etext_c l a b c, fun {J} {k} a b c => etext_c r a b c⟩)

end Go.Proofs.YtgdickihjaomjaaDoor
/- The document's events: Leaf, Min; to the program's own; like. -/
set_option linter.all false
set_option maxRecDepth 100000
namespace Go.Proofs.YtgdickihjaomjaaDoor
open Go.RowKit Go.Sep

set_option maxHeartbeats 400000 in
theorem rleaf_c {I : IM} {n : Nat} : Fun Tryd.prog 26 #[.int .u64 ((n : Nat) : Int)] I (fun v J => ∃ k, v = .pointer (some ⟨k, 0, none⟩) ∧ RE J (E.leaf n) k) := by
  refine enter_rule 6 [(0, .int .u64 ((n : Nat) : Int))] Tryd.func26 rfl (by kernel_rfl) ?_
  intro w s
  refine wp_seq ?_
  refine region_rule ?_
  refine ops_rule (C := []) [] [] 1 [] 0 (fun φ1 => [(2, .pointer none)]) (fun φ1 => []) (fun φ1 => []) s trivial (fun φ1 => by kernel_rfl) ?_
  intro φ1 w1 s
  refine ops_done (by kernel_rfl) ?_
  refine wp_seq ?_
  refine region_rule ?_
  refine ops_rule (C := []) [] [] 4 [] 1 (fun φ2 => [(2, .pointer (some ⟨(φ2 0), 0, none⟩)), (5, .pointer (some ⟨(φ2 0), 0, none⟩)), (4, .agg #[.int .u64 ((n : Nat) : Int), .pointer none, .pointer none]), (3, .int .u64 ((n : Nat) : Int))]) (fun φ2 => [((φ2 0), .cells #[.int .u64 ((n : Nat) : Int), .pointer none, .pointer none] 112)]) (fun φ2 => []) s trivial (fun φ2 => by kernel_rfl) ?_
  intro φ2 w2 s
  refine ops_done (by kernel_rfl) ?_
  refine wp_ret ?_
  refine ret_rule (C := []) [((φ2 0), .cells #[.int .u64 ((n : Nat) : Int), .pointer none, .pointer none] 112)] [] (.pointer (some ⟨(φ2 0), 0, none⟩)) [] [] s trivial (by kernel_rfl) ?_
  obtain ⟨I3, le3, hk3, s⟩ := s.freezeAt 0 (φ2 0) (.cells #[.int .u64 ((n : Nat) : Int), .pointer none, .pointer none] 112) [] (by kernel_rfl) (by kernel_rfl)
  exact ⟨_, _, _, rfl, s, ⟨_, rfl, hk3⟩⟩

set_option maxHeartbeats 2000000 in
theorem rmin_step {I : IM} {e : E} {k : Nat} (h : RE I e k) (ht : e.top < 18446744073709551616) (ih : ∀ n l r, e = .node n l r → (∀ {J : IM} {k : Nat}, RE J l k → l.top < 18446744073709551616 → Fun Tryd.prog 71 #[.pointer (some ⟨k, 0, none⟩)] J (fun v J => v = .int .u64 ((l.minE : Nat) : Int))) ∧ (∀ {J : IM} {k : Nat}, RE J r k → r.top < 18446744073709551616 → Fun Tryd.prog 71 #[.pointer (some ⟨k, 0, none⟩)] J (fun v J => v = .int .u64 ((r.minE : Nat) : Int)))) : Fun Tryd.prog 71 #[.pointer (some ⟨k, 0, none⟩)] I (fun v J => v = .int .u64 ((e.minE : Nat) : Int)) := by
  cases e with
  | leaf n =>
    have h0 : RE _ (E.leaf n) k := h
    refine enter_rule 39 [(0, .pointer (some ⟨k, 0, none⟩))] Tryd.func71 rfl (by kernel_rfl) ?_
    intro w s
    refine wp_seq ?_
    refine region_rule ?_
    refine ops_rule (C := []) [] [] 1 [] 0 (fun φ1 => [(2, .int .u64 0)]) (fun φ1 => []) (fun φ1 => []) s trivial (fun φ1 => by kernel_rfl) ?_
    intro φ1 w1 s
    refine ops_done (by kernel_rfl) ?_
    refine wp_seq ?_
    refine wp_seq ?_
    refine region_rule ?_
    refine ops_rule (C := [(k, .cells #[.int .u64 ((n : Nat) : Int), .pointer none, .pointer none] 112)]) [] [] 5 [.c 0] 0 (fun φ2 => [(9, .bool true), (8, .pointer none), (7, .pointer (some ⟨k, 1, none⟩)), (6, .pointer (some ⟨k, 0, none⟩)), (5, .pointer (some ⟨k, 0, none⟩))]) (fun φ2 => []) (fun φ2 => [k]) s ⟨h, trivial⟩ (fun φ2 => by kernel_rfl) ?_
    intro φ2 w2 s
    refine ops_done (by kernel_rfl) ?_
    refine cond_true_rule (b := true) (by kernel_rfl) rfl ?_
    refine wp_seq ?_
    refine region_rule ?_
    refine ops_rule (C := [(k, .cells #[.int .u64 ((n : Nat) : Int), .pointer none, .pointer none] 112)]) [] [] 5 [.c 0] 0 (fun φ3 => [(2, .int .u64 ((n : Nat) : Int)), (13, .int .u64 ((n : Nat) : Int)), (12, .pointer (some ⟨k, 0, none⟩)), (11, .pointer (some ⟨k, 0, none⟩)), (10, .pointer (some ⟨k, 0, none⟩))]) (fun φ3 => []) (fun φ3 => [k]) s ⟨h, trivial⟩ (fun φ3 => by kernel_rfl) ?_
    intro φ3 w3 s
    refine ops_done (by kernel_rfl) ?_
    refine wp_ret ?_
    refine ret_rule (C := []) [] [] (.int .u64 ((n : Nat) : Int)) [] [] s trivial (by kernel_rfl) ?_
    exact ⟨_, _, _, rfl, s, rfl⟩
  | node n l r =>
    have h0 : RE _ (E.node n l r) k := h
    obtain ⟨kl, kr, hk, hl, hr⟩ := h
    obtain ⟨ihl, ihr⟩ := ih n l r rfl
    clear ih
    have ht1 : n + max l.top r.top < 18446744073709551616 := ht
    have hm1 := E.minE_le l
    have hm2 := E.minE_le r
    refine enter_rule 39 [(0, .pointer (some ⟨k, 0, none⟩))] Tryd.func71 rfl (by kernel_rfl) ?_
    intro w s
    refine wp_seq ?_
    refine region_rule ?_
    refine ops_rule (C := []) [] [] 1 [] 0 (fun φ1 => [(2, .int .u64 0)]) (fun φ1 => []) (fun φ1 => []) s trivial (fun φ1 => by kernel_rfl) ?_
    intro φ1 w1 s
    refine ops_done (by kernel_rfl) ?_
    refine wp_seq ?_
    refine wp_seq ?_
    refine region_rule ?_
    refine ops_rule (C := [(k, .cells #[.int .u64 ((n : Nat) : Int), .pointer (some ⟨kl, 0, none⟩), .pointer (some ⟨kr, 0, none⟩)] 112)]) [] [] 5 [.c 0] 0 (fun φ2 => [(9, .bool false), (8, .pointer (some ⟨kl, 0, none⟩)), (7, .pointer (some ⟨k, 1, none⟩)), (6, .pointer (some ⟨k, 0, none⟩)), (5, .pointer (some ⟨k, 0, none⟩))]) (fun φ2 => []) (fun φ2 => [k]) s ⟨hk, trivial⟩ (fun φ2 => by kernel_rfl) ?_
    intro φ2 w2 s
    refine ops_done (by kernel_rfl) ?_
    refine cond_false_rule (b := false) (by kernel_rfl) rfl ?_
    refine wp_skip ?_
    refine wp_seq ?_
    refine draw_rule (C := [(k, .cells #[.int .u64 ((n : Nat) : Int), .pointer (some ⟨kl, 0, none⟩), .pointer (some ⟨kr, 0, none⟩)] 112)]) ⟨(fun φ3 xs3 => [.look 0 [] [], .look 0 [] [], .look 0 [] [], .look 0 [.c 0] [k], .call 71 #[.pointer (some ⟨kl, 0, none⟩)], .look 0 [] [], .look 0 [] [], .look 0 [] [], .look 0 [.c 0] [k], .call 71 #[.pointer (some ⟨kr, 0, none⟩)], .look 0 [] [], .look 0 [] []]), (fun φ3 xs3 => [.pointer (some ⟨k, 0, none⟩), .pointer (some ⟨k, 0, none⟩), .pointer (some ⟨k, 1, none⟩), .pointer (some ⟨kl, 0, none⟩), .int .u64 ((l.minE : Nat) : Int), .pointer (some ⟨k, 0, none⟩), .pointer (some ⟨k, 0, none⟩), .pointer (some ⟨k, 2, none⟩), .pointer (some ⟨kr, 0, none⟩), .int .u64 ((r.minE : Nat) : Int), .int .u64 ((l.minE : Nat) : Int), .int .u64 ((r.minE : Nat) : Int)]), (fun φ3 xs3 => [[]]), (fun φ3 xs3 => [[default, default, default, default, default, default, default, default, default, default, default, default]]), [], [1, 1, 1, 1, 3, 1, 1, 1, 1, 3, 1, 1]⟩ (fun j => ([MP.any, MP.any, MP.any, MP.any, MP.any, MP.any, MP.any, MP.any, MP.any, MP.any, MP.any, MP.any] : List MP).getD j MP.any) [4, 9] [] [] (fun φ3 xs3 => []) (fun φ3 xs3 => [(14, .pointer (some ⟨k, 0, none⟩)), (15, .pointer (some ⟨k, 0, none⟩)), (16, .pointer (some ⟨k, 1, none⟩)), (17, .pointer (some ⟨kl, 0, none⟩)), (18, .int .u64 ((l.minE : Nat) : Int)), (19, .pointer (some ⟨k, 0, none⟩)), (20, .pointer (some ⟨k, 0, none⟩)), (21, .pointer (some ⟨k, 2, none⟩)), (22, .pointer (some ⟨kr, 0, none⟩)), (23, .int .u64 ((r.minE : Nat) : Int)), (3, .int .u64 ((l.minE : Nat) : Int)), (4, .int .u64 ((r.minE : Nat) : Int))]) (fun φ3 xs3 => []) s ⟨hk, trivial⟩ (by kernel_rfl) (by kernel_rfl) (fun _ _ => by kernel_rfl) (fun _ _ => by kernel_rfl) ⟨fun _ _ => by kernel_rfl, fun _ _ => by kernel_rfl, fun _ _ => by kernel_rfl, fun _ _ => by kernel_rfl⟩ (fun _ _ _ => by kernel_rfl) (fun _ _ => by kernel_rfl) (fun _ _ => by kernel_rfl) (fun _ _ => by kernel_rfl) (fun _ _ => by kernel_rfl) (fun _ _ => by kernel_rfl) trivial trivial (by kernel_rfl) ⟨?c3_4, ?c3_9, trivial⟩ ?k3
    case c3_4 =>
      refine kcast (A := ∀ (φ3 : Nat → Nat) (xs3 : Xs) (J4_3 : IM), I.Le J4_3 → Fun Tryd.prog 71 #[.pointer (some ⟨kl, 0, none⟩)] J4_3 (fun v J' => ∃ x : UX, v = .int .u64 ((l.minE : Nat) : Int) ∧ (True))) (by kernel_rfl) ?_
      intro φ3 xs3 J4_3 leJ
      have hl := RE.mono leJ hl
      exact Fun.mono (ihl hl (by omega)) (fun v J' _ h => ⟨UX.d, h, trivial⟩)
    case c3_9 =>
      refine kcast (A := ∀ (φ3 : Nat → Nat) (xs3 : Xs) (J9_3 : IM), I.Le J9_3 → (True) → Fun Tryd.prog 71 #[.pointer (some ⟨kr, 0, none⟩)] J9_3 (fun v J' => ∃ x : UX, v = .int .u64 ((r.minE : Nat) : Int) ∧ (True))) (by kernel_rfl) ?_
      intro φ3 xs3 J9_3 leJ
      rintro _
      have hr := RE.mono leJ hr
      exact Fun.mono (ihr hr (by omega)) (fun v J' _ h => ⟨UX.d, h, trivial⟩)
    case k3 =>
      rintro φ3 xs3 I3 w3 le3 s _ _
      replace hl := RE.mono le3 hl
      replace hr := RE.mono le3 hr
      replace h0 := RE.mono le3 h0
      replace hk := le3 _ _ hk
      refine wp_seq ?_
      refine wp_seq ?_
      refine region_rule ?_
      refine ops_rule (C := []) [] [] 3 [] 0 (fun φ4 => [(26, .bool (decide (((l.minE : Nat) : Int) < ((r.minE : Nat) : Int)))), (25, .int .u64 ((r.minE : Nat) : Int)), (24, .int .u64 ((l.minE : Nat) : Int))]) (fun φ4 => []) (fun φ4 => []) s trivial (fun φ4 => by kernel_rfl) ?_
      intro φ4 w4 s
      rw [nat_lss (a := l.minE) (b := r.minE)]
      refine ops_done (by kernel_rfl) ?_
      rcases Bool.eq_false_or_eq_true (decide (l.minE < r.minE)) with hc5 | hc5
      ·
        rw [hc5]
        refine cond_true_rule (b := true) (by kernel_rfl) rfl ?_
        refine wp_seq ?_
        refine region_rule ?_
        refine ops_rule (C := [(k, .cells #[.int .u64 ((n : Nat) : Int), .pointer (some ⟨kl, 0, none⟩), .pointer (some ⟨kr, 0, none⟩)] 112)]) [] [] 7 [.c 0] 0 (fun φ6 => [(2, .int .u64 (IntKind.wrap .u64 (((n : Nat) : Int) + ((l.minE : Nat) : Int)))), (32, .int .u64 (IntKind.wrap .u64 (((n : Nat) : Int) + ((l.minE : Nat) : Int)))), (31, .int .u64 ((l.minE : Nat) : Int)), (30, .int .u64 ((n : Nat) : Int)), (29, .pointer (some ⟨k, 0, none⟩)), (28, .pointer (some ⟨k, 0, none⟩)), (27, .pointer (some ⟨k, 0, none⟩))]) (fun φ6 => []) (fun φ6 => [k]) s ⟨hk, trivial⟩ (fun φ6 => by kernel_rfl) ?_
        intro φ6 w6 s
        rw [nat_addU (a := n) (b := l.minE) (by omega)]
        refine ops_done (by kernel_rfl) ?_
        refine wp_ret ?_
        refine ret_rule (C := []) [] [] (.int .u64 ((n + l.minE : Nat) : Int)) [] [] s trivial (by kernel_rfl) ?_
        exact ⟨_, _, _, rfl, s, (by have hc := of_decide_eq_true hc5; show _ = Value.int .u64 ((n + min l.minE r.minE : Nat) : Int); rw [Nat.min_eq_left (by omega)])⟩
      ·
        rw [hc5]
        refine cond_false_rule (b := false) (by kernel_rfl) rfl ?_
        refine wp_skip ?_
        refine wp_seq ?_
        refine region_rule ?_
        refine ops_rule (C := [(k, .cells #[.int .u64 ((n : Nat) : Int), .pointer (some ⟨kl, 0, none⟩), .pointer (some ⟨kr, 0, none⟩)] 112)]) [] [] 7 [.c 0] 0 (fun φ7 => [(2, .int .u64 (IntKind.wrap .u64 (((n : Nat) : Int) + ((r.minE : Nat) : Int)))), (38, .int .u64 (IntKind.wrap .u64 (((n : Nat) : Int) + ((r.minE : Nat) : Int)))), (37, .int .u64 ((r.minE : Nat) : Int)), (36, .int .u64 ((n : Nat) : Int)), (35, .pointer (some ⟨k, 0, none⟩)), (34, .pointer (some ⟨k, 0, none⟩)), (33, .pointer (some ⟨k, 0, none⟩))]) (fun φ7 => []) (fun φ7 => [k]) s ⟨hk, trivial⟩ (fun φ7 => by kernel_rfl) ?_
        intro φ7 w7 s
        rw [nat_addU (a := n) (b := r.minE) (by omega)]
        refine ops_done (by kernel_rfl) ?_
        refine wp_ret ?_
        refine ret_rule (C := []) [] [] (.int .u64 ((n + r.minE : Nat) : Int)) [] [] s trivial (by kernel_rfl) ?_
        exact ⟨_, _, _, rfl, s, (by have hc := of_decide_eq_false hc5; show _ = Value.int .u64 ((n + min l.minE r.minE : Nat) : Int); rw [Nat.min_eq_right (by omega)])⟩

theorem rmin_c : ∀ (e : E) {I : IM} {k : Nat}, RE I e k → e.top < 18446744073709551616 → Fun Tryd.prog 71 #[.pointer (some ⟨k, 0, none⟩)] I (fun v _ => v = .int .u64 ((e.minE : Nat) : Int))
  | .leaf n, _, _, h, ht => rmin_step h ht (fun n l r h => by cases h)
  | .node n l r, _, _, h, ht => rmin_step h ht (fun n' l' r' e => by
      cases e
      exact ⟨fun {J} {k} a b => rmin_c l a b, fun {J} {k} a b => rmin_c r a b⟩)

theorem nodeOk9_c {I : IM} {n : Nat} {l r : E} {bl br : Nat} {pl pr : Option Addr} (hm : E.mk n l r = .node n l r) (ht : (E.node n l r).top ≤ 1048576) (hd : (E.node n l r).depth ≤ 16) (hl : ERep I l bl pl) (hr : ERep I r br pr) : Fun Tryd.prog 18 #[.int .u64 ((n : Nat) : Int), evv bl pl, evv br pr] I (fun v J => ∃ b p, v = .tuple #[evv b p, .int .i64 0] ∧ ERep J (E.node n l r) b p) := by
  have ht1 : n + max l.top r.top ≤ 1048576 := ht
  have hd1 : 1 + max l.depth r.depth ≤ 16 := hd
  have h := nodeR_c (n := n) hl hr (by omega) (by omega) (by omega) (by omega)
  have e : nodeR n l r = (.node n l r, 0) := by
    unfold nodeR
    rw [if_neg (by omega), if_neg (by omega), if_neg (by omega), hm]
  rw [e] at h
  exact h

end Go.Proofs.YtgdickihjaomjaaDoor
/- The document's events: Node. -/
set_option linter.all false
set_option maxRecDepth 100000
namespace Go.Proofs.YtgdickihjaomjaaDoor
open Go.RowKit Go.Sep

theorem rminB_c {I : IM} {e : E} {k : Nat} (h : RE I e k) (hn : e.nf) (ht : e.top < 18446744073709551616) : Fun Tryd.prog 71 #[.pointer (some ⟨k, 0, none⟩)] I (fun v _ => v = .int .u64 ((e.base : Nat) : Int)) :=
  (rmin_c e h ht).mono fun v J _ hv => by rw [hv, E.min_base hn]
end Go.Proofs.YtgdickihjaomjaaDoor
/- The document's Make of ids. -/
set_option linter.all false
set_option maxRecDepth 100000
namespace Go.Proofs.YtgdickihjaomjaaDoor
open Go.RowKit Go.Sep

def BSl (I : IM) (l : List UInt8) (v : Value) : Prop := ∃ a cap, v = .slice a l.length cap ∧ l.length ≤ cap ∧ ∀ j x, l[j]? = some x → ∃ b o cs T fr, a = some ⟨b, o, none⟩ ∧ I b = some (.cells cs T fr) ∧ cs[o + j]? = some (.int .u8 ((x.toNat : Nat) : Int))
theorem BSl.mono {I J : IM} (le : I.Le J) {l : List UInt8} {v : Value} (h : BSl I l v) : BSl J l v := by
  obtain ⟨a, cap, hv, hc, hr⟩ := h
  refine ⟨a, cap, hv, hc, fun j x hj => ?_⟩
  obtain ⟨b, o, cs, T, fr, h1, h2, h3⟩ := hr j x hj
  exact ⟨b, o, cs, T, fr, h1, le _ _ h2, h3⟩
end Go.Proofs.YtgdickihjaomjaaDoor
/- Joins of stamps; what splitting and joining keep. -/
set_option linter.all false
set_option maxRecDepth 100000
namespace Go.Proofs.YtgdickihjaomjaaDoor
open Go.RowKit Go.Sep

theorem textE_len : ∀ e : E, e.top < 18446744073709551616 → (textE e).length + 1004 ≤ 2004 * 2 ^ e.depth
  | .leaf n, h => by
    have := digits_le n h
    show (Lib.decDigits n).length + 1004 ≤ 2004 * 2 ^ 0
    omega
  | .node n l r, h => by
    have h0 : n + max l.top r.top < 18446744073709551616 := h
    have h1 := textE_len l (by omega)
    have h2 := textE_len r (by omega)
    have h3 := digits_le n (by omega)
    have e : (E.node n l r).depth = 1 + max l.depth r.depth := rfl
    have p1 : 2 ^ l.depth ≤ 2 ^ max l.depth r.depth := Nat.pow_le_pow_right (by omega) (by omega)
    have p2 : 2 ^ r.depth ≤ 2 ^ max l.depth r.depth := Nat.pow_le_pow_right (by omega) (by omega)
    rw [e, Nat.pow_add]
    simp only [textE, List.length_append, List.length_cons, List.length_nil]
    omega
end Go.Proofs.YtgdickihjaomjaaDoor
/- The document's Fill and Grow. -/
set_option linter.all false
set_option maxRecDepth 100000
namespace Go.Proofs.YtgdickihjaomjaaDoor
open Go.RowKit Go.Sep

set_option maxHeartbeats 2000000 in
theorem rmax_step {I : IM} {e : E} {k : Nat} (h : RE I e k) (ht : e.top < 18446744073709551616) (ih : ∀ n l r, e = .node n l r → (∀ {J : IM} {k : Nat}, RE J l k → l.top < 18446744073709551616 → Fun Tryd.prog 67 #[.pointer (some ⟨k, 0, none⟩)] J (fun v J => v = .int .u64 ((l.top : Nat) : Int))) ∧ (∀ {J : IM} {k : Nat}, RE J r k → r.top < 18446744073709551616 → Fun Tryd.prog 67 #[.pointer (some ⟨k, 0, none⟩)] J (fun v J => v = .int .u64 ((r.top : Nat) : Int)))) : Fun Tryd.prog 67 #[.pointer (some ⟨k, 0, none⟩)] I (fun v J => v = .int .u64 ((e.top : Nat) : Int)) := by
  cases e with
  | leaf n =>
    have h0 : RE _ (E.leaf n) k := h
    refine enter_rule 39 [(0, .pointer (some ⟨k, 0, none⟩))] Tryd.func67 rfl (by kernel_rfl) ?_
    intro w s
    refine wp_seq ?_
    refine region_rule ?_
    refine ops_rule (C := []) [] [] 1 [] 0 (fun φ1 => [(2, .int .u64 0)]) (fun φ1 => []) (fun φ1 => []) s trivial (fun φ1 => by kernel_rfl) ?_
    intro φ1 w1 s
    refine ops_done (by kernel_rfl) ?_
    refine wp_seq ?_
    refine wp_seq ?_
    refine region_rule ?_
    refine ops_rule (C := [(k, .cells #[.int .u64 ((n : Nat) : Int), .pointer none, .pointer none] 112)]) [] [] 5 [.c 0] 0 (fun φ2 => [(9, .bool true), (8, .pointer none), (7, .pointer (some ⟨k, 1, none⟩)), (6, .pointer (some ⟨k, 0, none⟩)), (5, .pointer (some ⟨k, 0, none⟩))]) (fun φ2 => []) (fun φ2 => [k]) s ⟨h, trivial⟩ (fun φ2 => by kernel_rfl) ?_
    intro φ2 w2 s
    refine ops_done (by kernel_rfl) ?_
    refine cond_true_rule (b := true) (by kernel_rfl) rfl ?_
    refine wp_seq ?_
    refine region_rule ?_
    refine ops_rule (C := [(k, .cells #[.int .u64 ((n : Nat) : Int), .pointer none, .pointer none] 112)]) [] [] 5 [.c 0] 0 (fun φ3 => [(2, .int .u64 ((n : Nat) : Int)), (13, .int .u64 ((n : Nat) : Int)), (12, .pointer (some ⟨k, 0, none⟩)), (11, .pointer (some ⟨k, 0, none⟩)), (10, .pointer (some ⟨k, 0, none⟩))]) (fun φ3 => []) (fun φ3 => [k]) s ⟨h, trivial⟩ (fun φ3 => by kernel_rfl) ?_
    intro φ3 w3 s
    refine ops_done (by kernel_rfl) ?_
    refine wp_ret ?_
    refine ret_rule (C := []) [] [] (.int .u64 ((n : Nat) : Int)) [] [] s trivial (by kernel_rfl) ?_
    exact ⟨_, _, _, rfl, s, rfl⟩
  | node n l r =>
    have h0 : RE _ (E.node n l r) k := h
    obtain ⟨kl, kr, hk, hl, hr⟩ := h
    obtain ⟨ihl, ihr⟩ := ih n l r rfl
    clear ih
    have ht1 : n + max l.top r.top < 18446744073709551616 := ht
    refine enter_rule 39 [(0, .pointer (some ⟨k, 0, none⟩))] Tryd.func67 rfl (by kernel_rfl) ?_
    intro w s
    refine wp_seq ?_
    refine region_rule ?_
    refine ops_rule (C := []) [] [] 1 [] 0 (fun φ1 => [(2, .int .u64 0)]) (fun φ1 => []) (fun φ1 => []) s trivial (fun φ1 => by kernel_rfl) ?_
    intro φ1 w1 s
    refine ops_done (by kernel_rfl) ?_
    refine wp_seq ?_
    refine wp_seq ?_
    refine region_rule ?_
    refine ops_rule (C := [(k, .cells #[.int .u64 ((n : Nat) : Int), .pointer (some ⟨kl, 0, none⟩), .pointer (some ⟨kr, 0, none⟩)] 112)]) [] [] 5 [.c 0] 0 (fun φ2 => [(9, .bool false), (8, .pointer (some ⟨kl, 0, none⟩)), (7, .pointer (some ⟨k, 1, none⟩)), (6, .pointer (some ⟨k, 0, none⟩)), (5, .pointer (some ⟨k, 0, none⟩))]) (fun φ2 => []) (fun φ2 => [k]) s ⟨hk, trivial⟩ (fun φ2 => by kernel_rfl) ?_
    intro φ2 w2 s
    refine ops_done (by kernel_rfl) ?_
    refine cond_false_rule (b := false) (by kernel_rfl) rfl ?_
    refine wp_skip ?_
    refine wp_seq ?_
    refine draw_rule (C := [(k, .cells #[.int .u64 ((n : Nat) : Int), .pointer (some ⟨kl, 0, none⟩), .pointer (some ⟨kr, 0, none⟩)] 112)]) ⟨(fun φ3 xs3 => [.look 0 [] [], .look 0 [] [], .look 0 [] [], .look 0 [.c 0] [k], .call 67 #[.pointer (some ⟨kl, 0, none⟩)], .look 0 [] [], .look 0 [] [], .look 0 [] [], .look 0 [.c 0] [k], .call 67 #[.pointer (some ⟨kr, 0, none⟩)], .look 0 [] [], .look 0 [] []]), (fun φ3 xs3 => [.pointer (some ⟨k, 0, none⟩), .pointer (some ⟨k, 0, none⟩), .pointer (some ⟨k, 1, none⟩), .pointer (some ⟨kl, 0, none⟩), .int .u64 ((l.top : Nat) : Int), .pointer (some ⟨k, 0, none⟩), .pointer (some ⟨k, 0, none⟩), .pointer (some ⟨k, 2, none⟩), .pointer (some ⟨kr, 0, none⟩), .int .u64 ((r.top : Nat) : Int), .int .u64 ((l.top : Nat) : Int), .int .u64 ((r.top : Nat) : Int)]), (fun φ3 xs3 => [[]]), (fun φ3 xs3 => [[default, default, default, default, default, default, default, default, default, default, default, default]]), [], [1, 1, 1, 1, 3, 1, 1, 1, 1, 3, 1, 1]⟩ (fun j => ([MP.any, MP.any, MP.any, MP.any, MP.any, MP.any, MP.any, MP.any, MP.any, MP.any, MP.any, MP.any] : List MP).getD j MP.any) [4, 9] [] [] (fun φ3 xs3 => []) (fun φ3 xs3 => [(14, .pointer (some ⟨k, 0, none⟩)), (15, .pointer (some ⟨k, 0, none⟩)), (16, .pointer (some ⟨k, 1, none⟩)), (17, .pointer (some ⟨kl, 0, none⟩)), (18, .int .u64 ((l.top : Nat) : Int)), (19, .pointer (some ⟨k, 0, none⟩)), (20, .pointer (some ⟨k, 0, none⟩)), (21, .pointer (some ⟨k, 2, none⟩)), (22, .pointer (some ⟨kr, 0, none⟩)), (23, .int .u64 ((r.top : Nat) : Int)), (3, .int .u64 ((l.top : Nat) : Int)), (4, .int .u64 ((r.top : Nat) : Int))]) (fun φ3 xs3 => []) s ⟨hk, trivial⟩ (by kernel_rfl) (by kernel_rfl) (fun _ _ => by kernel_rfl) (fun _ _ => by kernel_rfl) ⟨fun _ _ => by kernel_rfl, fun _ _ => by kernel_rfl, fun _ _ => by kernel_rfl, fun _ _ => by kernel_rfl⟩ (fun _ _ _ => by kernel_rfl) (fun _ _ => by kernel_rfl) (fun _ _ => by kernel_rfl) (fun _ _ => by kernel_rfl) (fun _ _ => by kernel_rfl) (fun _ _ => by kernel_rfl) trivial trivial (by kernel_rfl) ⟨?c3_4, ?c3_9, trivial⟩ ?k3
    case c3_4 =>
      refine kcast (A := ∀ (φ3 : Nat → Nat) (xs3 : Xs) (J4_3 : IM), I.Le J4_3 → Fun Tryd.prog 67 #[.pointer (some ⟨kl, 0, none⟩)] J4_3 (fun v J' => ∃ x : UX, v = .int .u64 ((l.top : Nat) : Int) ∧ (True))) (by kernel_rfl) ?_
      intro φ3 xs3 J4_3 leJ
      have hl := RE.mono leJ hl
      exact Fun.mono (ihl hl (by omega)) (fun v J' _ h => ⟨UX.d, h, trivial⟩)
    case c3_9 =>
      refine kcast (A := ∀ (φ3 : Nat → Nat) (xs3 : Xs) (J9_3 : IM), I.Le J9_3 → (True) → Fun Tryd.prog 67 #[.pointer (some ⟨kr, 0, none⟩)] J9_3 (fun v J' => ∃ x : UX, v = .int .u64 ((r.top : Nat) : Int) ∧ (True))) (by kernel_rfl) ?_
      intro φ3 xs3 J9_3 leJ
      rintro _
      have hr := RE.mono leJ hr
      exact Fun.mono (ihr hr (by omega)) (fun v J' _ h => ⟨UX.d, h, trivial⟩)
    case k3 =>
      rintro φ3 xs3 I3 w3 le3 s _ _
      replace hl := RE.mono le3 hl
      replace hr := RE.mono le3 hr
      replace h0 := RE.mono le3 h0
      replace hk := le3 _ _ hk
      refine wp_seq ?_
      refine wp_seq ?_
      refine region_rule ?_
      refine ops_rule (C := []) [] [] 3 [] 0 (fun φ4 => [(26, .bool (decide (((l.top : Nat) : Int) > ((r.top : Nat) : Int)))), (25, .int .u64 ((r.top : Nat) : Int)), (24, .int .u64 ((l.top : Nat) : Int))]) (fun φ4 => []) (fun φ4 => []) s trivial (fun φ4 => by kernel_rfl) ?_
      intro φ4 w4 s
      rw [nat_gtr (a := l.top) (b := r.top)]
      refine ops_done (by kernel_rfl) ?_
      rcases Bool.eq_false_or_eq_true (decide (r.top < l.top)) with hc5 | hc5
      ·
        rw [hc5]
        refine cond_true_rule (b := true) (by kernel_rfl) rfl ?_
        refine wp_seq ?_
        refine region_rule ?_
        refine ops_rule (C := [(k, .cells #[.int .u64 ((n : Nat) : Int), .pointer (some ⟨kl, 0, none⟩), .pointer (some ⟨kr, 0, none⟩)] 112)]) [] [] 7 [.c 0] 0 (fun φ6 => [(2, .int .u64 (IntKind.wrap .u64 (((n : Nat) : Int) + ((l.top : Nat) : Int)))), (32, .int .u64 (IntKind.wrap .u64 (((n : Nat) : Int) + ((l.top : Nat) : Int)))), (31, .int .u64 ((l.top : Nat) : Int)), (30, .int .u64 ((n : Nat) : Int)), (29, .pointer (some ⟨k, 0, none⟩)), (28, .pointer (some ⟨k, 0, none⟩)), (27, .pointer (some ⟨k, 0, none⟩))]) (fun φ6 => []) (fun φ6 => [k]) s ⟨hk, trivial⟩ (fun φ6 => by kernel_rfl) ?_
        intro φ6 w6 s
        rw [nat_addU (a := n) (b := l.top) (by omega)]
        refine ops_done (by kernel_rfl) ?_
        refine wp_ret ?_
        refine ret_rule (C := []) [] [] (.int .u64 ((n + l.top : Nat) : Int)) [] [] s trivial (by kernel_rfl) ?_
        exact ⟨_, _, _, rfl, s, (by have hc := of_decide_eq_true hc5; show _ = Value.int .u64 ((n + max l.top r.top : Nat) : Int); rw [Nat.max_eq_left (by omega)])⟩
      ·
        rw [hc5]
        refine cond_false_rule (b := false) (by kernel_rfl) rfl ?_
        refine wp_skip ?_
        refine wp_seq ?_
        refine region_rule ?_
        refine ops_rule (C := [(k, .cells #[.int .u64 ((n : Nat) : Int), .pointer (some ⟨kl, 0, none⟩), .pointer (some ⟨kr, 0, none⟩)] 112)]) [] [] 7 [.c 0] 0 (fun φ7 => [(2, .int .u64 (IntKind.wrap .u64 (((n : Nat) : Int) + ((r.top : Nat) : Int)))), (38, .int .u64 (IntKind.wrap .u64 (((n : Nat) : Int) + ((r.top : Nat) : Int)))), (37, .int .u64 ((r.top : Nat) : Int)), (36, .int .u64 ((n : Nat) : Int)), (35, .pointer (some ⟨k, 0, none⟩)), (34, .pointer (some ⟨k, 0, none⟩)), (33, .pointer (some ⟨k, 0, none⟩))]) (fun φ7 => []) (fun φ7 => [k]) s ⟨hk, trivial⟩ (fun φ7 => by kernel_rfl) ?_
        intro φ7 w7 s
        rw [nat_addU (a := n) (b := r.top) (by omega)]
        refine ops_done (by kernel_rfl) ?_
        refine wp_ret ?_
        refine ret_rule (C := []) [] [] (.int .u64 ((n + r.top : Nat) : Int)) [] [] s trivial (by kernel_rfl) ?_
        exact ⟨_, _, _, rfl, s, (by have hc := of_decide_eq_false hc5; show _ = Value.int .u64 ((n + max l.top r.top : Nat) : Int); rw [Nat.max_eq_right (by omega)])⟩

theorem rmax_c : ∀ (e : E) {I : IM} {k : Nat}, RE I e k → e.top < 18446744073709551616 → Fun Tryd.prog 67 #[.pointer (some ⟨k, 0, none⟩)] I (fun v _ => v = .int .u64 ((e.top : Nat) : Int))
  | .leaf n, _, _, h, ht => rmax_step h ht (fun n l r h => by cases h)
  | .node n l r, _, _, h, ht => rmax_step h ht (fun n' l' r' e => by
      cases e
      exact ⟨fun {J} {k} a b => rmax_c l a b, fun {J} {k} a b => rmax_c r a b⟩)

end Go.Proofs.YtgdickihjaomjaaDoor
/- The document's Grow. -/
set_option linter.all false
set_option maxRecDepth 100000
namespace Go.Proofs.YtgdickihjaomjaaDoor
open Go.RowKit Go.Sep

theorem E.base_half (e : E) : e.base + max e.left.top e.right.top = e.top := by cases e <;> rfl
end Go.Proofs.YtgdickihjaomjaaDoor
/- Heights, part by part; what filling does to them. -/
set_option linter.all false
set_option maxRecDepth 100000
namespace Go.Proofs.YtgdickihjaomjaaDoor
open Go.RowKit Go.Sep

def hL : Nat → E → List Nat
  | 0, e => [e.top]
  | d + 1, e => hL d (E.up e.base e.left) ++ hL d (E.up e.base e.right)
def hAt : Nat → E → Nat → Nat
  | 0, e, _ => e.top
  | d + 1, e, k => if k < 2 ^ d then hAt d (E.up e.base e.left) k else hAt d (E.up e.base e.right) (k - 2 ^ d)
theorem two_succ (d : Nat) : 2 ^ (d + 1) = 2 ^ d + 2 ^ d := by rw [Nat.pow_succ]; omega
theorem hL_len : ∀ (d : Nat) (e : E), (hL d e).length = 2 ^ d
  | 0, _ => rfl
  | d + 1, e => by rw [hL, List.length_append, hL_len d, hL_len d, two_succ]
theorem hL_get : ∀ (d : Nat) (e : E) (k : Nat), k < 2 ^ d → (hL d e)[k]? = some (hAt d e k)
  | 0, e, k, h => by
    have : k = 0 := by simpa using h
    subst this; rfl
  | d + 1, e, k, h => by
    rw [hL, hAt, List.getElem?_append, hL_len]
    rw [two_succ] at h
    split
    · exact hL_get d _ k (by assumption)
    · exact hL_get d _ _ (by omega)
end Go.Proofs.YtgdickihjaomjaaDoor
