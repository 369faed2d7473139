/- Numbers as decimal digits, behind a row: strconv.AppendUint to the base 10. -/
import Derived.Test.YtgdickihjaomjaaDoorElS8
import Derived.Test.YtgdickihjaomjaaDoorElShelf
import Derived.Lib.ItoaLen
import Derived.Lib.ItoaMem
set_option linter.all false
set_option maxRecDepth 100000
namespace Go.Proofs.YtgdickihjaomjaaDoor
open Go.RowKit Go.Sep Go.Sort Go.Lib

def Tab (I : IM) : Prop := ∀ w, I.Sub w → Lib.TabIs Tryd.prog w "internal/strconv.uint64pow10" .u64 Lib.pow10Tab
theorem Tab.mono {I J : IM} (le : I.Le J) (h : Tab I) : Tab J := fun w hw => h w (fun k o e => hw k o (le k o e))
abbrev bcs (l : List UInt8) : List Value := Lib.byteCells l
theorem small_c {I : IM} {i : Nat} (h : i < 100) : Fun Tryd.prog 125 #[.int .i64 ((i : Nat) : Int)] I (fun v _ => v = .string ⟨(Lib.decDigits i).toArray⟩) := fun w hw =>
  (Tryd.internal_strconv_small i h w).mono fun e w' ⟨he, hw'⟩ => by subst he; subst hw'; exact ⟨_, I, [], rfl, St.start hw, rfl⟩
theorem numDigits_c {I : IM} {u : Nat} (hT : Tab I) (h1 : 1 ≤ u) (h2 : u < 18446744073709551616) : Fun Tryd.prog 126 #[.int .u64 ((u : Nat) : Int)] I (fun v _ => v = .int .i64 ((Lib.nDigits u : Nat) : Int)) := fun w hw =>
  (Tryd.internal_strconv_numDigits u h1 h2 w (hT w hw)).mono fun e w' ⟨he, hw'⟩ => by subst he; subst hw'; exact ⟨_, I, [], rfl, St.start hw, rfl⟩
def Z20 : Array Value := #[.int .u8 0, .int .u8 0, .int .u8 0, .int .u8 0, .int .u8 0, .int .u8 0, .int .u8 0, .int .u8 0, .int .u8 0, .int .u8 0, .int .u8 0, .int .u8 0, .int .u8 0, .int .u8 0, .int .u8 0, .int .u8 0, .int .u8 0, .int .u8 0, .int .u8 0, .int .u8 0, .int .u8 0, .int .u8 0, .int .u8 0, .int .u8 0]
theorem st_drewN {w0 : World} {I0 : IM} {m : List Nat} {I : IM} {H : List OB} : ∀ {n : Nat} {w : World}, St w0 I0 m I w H → St w0 I0 m I (w.drewN n) H
  | 0, w, s => by simpa [World.drewN] using s
  | n + 1, w, s => ⟨s.sub, s.le, s.new, ⟨s.fr.os, s.fr.tape, s.fr.output, s.fr.size, s.fr.block⟩, s.own, s.free, s.fresh, s.nodup⟩
theorem format_c {I : IM} {b u : Nat} (h2 : u < 18446744073709551616) : FunM Tryd.prog 127 #[.slice (some ⟨b, 0, none⟩) (Lib.nDigits u) 24, .int .u64 ((u : Nat) : Int)] I [(b, .cells Z20 171)]
    (fun v J F' => v = .tuple #[] ∧ ∃ cur : Array Value, F' = [(b, .cells cur 171)] ∧ cur.size = 24 ∧ cur.toList.take (Lib.nDigits u * 1) = bcs (Lib.decDigits u)) := by
  intro w hI ho
  have hb : w.heap[b]? = some (.cells Z20 171 (0, 0)) := ho.own (b, _) (by simp)
  have hn := Lib.nDigits_le20 u h2
  have hsz : (Array.replicate (Lib.nDigits u) (0 : UInt8)).size = Lib.nDigits u := by simp
  have hH : Holds (fun (x : UInt8) => Value.int .u8 (x.toNat : Int)) w b 0 (Array.replicate (Lib.nDigits u) (0 : UInt8)) := fun j hj => by
    have hj' : j < 24 := by simp at hj; omega
    have e1 : (Array.replicate (Lib.nDigits u) (0 : UInt8))[j]! = 0 := by simp at hj; simp [hj]
    refine ⟨?_, (Sep.run_frozen (a := ⟨b, 0 + j, none⟩) hb rfl).trans (by simp)⟩
    rw [run_cell (a := ⟨b, 0 + j, none⟩) hb rfl rfl, e1]
    have : ∀ j, j < 24 → Z20[j]? = some (Value.int .u8 ((0 : UInt8).toNat : Int)) := by
      intro j hj
      match j, hj with
      | 0, _ => rfl
      | 1, _ => rfl
      | 2, _ => rfl
      | 3, _ => rfl
      | 4, _ => rfl
      | 5, _ => rfl
      | 6, _ => rfl
      | 7, _ => rfl
      | 8, _ => rfl
      | 9, _ => rfl
      | 10, _ => rfl
      | 11, _ => rfl
      | 12, _ => rfl
      | 13, _ => rfl
      | 14, _ => rfl
      | 15, _ => rfl
      | 16, _ => rfl
      | 17, _ => rfl
      | 18, _ => rfl
      | 19, _ => rfl
      | 20, _ => rfl
      | 21, _ => rfl
      | 22, _ => rfl
      | 23, _ => rfl
      | j + 24, h => omega
    simpa using this j hj'
  have hc := Tryd.internal_strconv_formatBase10 b 0 24 u (Array.replicate (Lib.nDigits u) (0 : UInt8)) w hH (by rw [hsz]; exact Lib.lt_pow_nDigits u) h2 (by rw [hsz]; omega)
  rw [hsz] at hc
  refine hc.mono ?_
  rintro e w' ⟨rfl, n, v', dk, rfl, hF⟩
  have s0 := St.startM hI ho
  have hdk : dk.size = Lib.nDigits u := hF.size
  have s1 : St w I [b] I (putRow (fun (x : UInt8) => Value.int .u8 (x.toNat : Int)) w b 0 dk) [(b, .cells (putCells (fun (x : UInt8) => Value.int .u8 (x.toNat : Int)) 0 dk Z20) 171)] := by
    have := St.set (i := 0) (k := b) (o' := .cells (putCells (fun (x : UInt8) => Value.int .u8 (x.toNat : Int)) 0 dk Z20) 171) (w' := putRow (fun (x : UInt8) => Value.int .u8 (x.toNat : Int)) w b 0 dk) s0 rfl rfl rfl rfl (by simp) (by
      show (w.heap.modify b _)[b]? = _
      rw [Array.getElem?_modify]; simp [hb]; rfl) (fun q hq => by
      simp only [putRow, mapBlock, Array.getElem?_modify]; rw [if_neg (fun h => hq h.symm)])
    exact this
  refine ⟨_, I, _, rfl, st_drewN s1, rfl, _, rfl, by simp only [putCells, Array.size_mapIdx]; rfl, ?_⟩
  rw [Nat.mul_one]
  apply List.ext_getElem?
  intro j
  rw [List.getElem?_take]
  split
  · rename_i hj
    have hl : j < (Lib.decDigits u).length := by rw [Lib.decDigits_length]; exact hj
    have := Lib.row_is_numeral hF j hl
    have hz : j < Z20.size := by have : Z20.size = 24 := rfl; omega
    simp only [putCells, Array.getElem?_toList, Array.getElem?_mapIdx, Lib.byteCells, List.getElem?_map, List.getElem?_eq_getElem hl, Option.map_some, this]
    rw [Array.getElem?_eq_getElem hz]
    simp [hdk, hj]
  · rename_i hj
    rw [List.getElem?_eq_none]
    rw [Lib.byteCells_length, Lib.decDigits_length]; omega
theorem one_bcs (l : List UInt8) : (bcs l).all (·.oneCell') = true := by simp [Lib.byteCells, Value.oneCell']

set_option maxHeartbeats 1000000 in
theorem appendUint0_c {I : IM} {u n : Nat} {v : Value} {xs : List Value} {F : List OB} (hT : Tab I) (hu : u < 18446744073709551616) (hrow : RowH 5 1 v n xs F) (hlim : n + 20 ≤ 140737488355328) : FunM Tryd.prog 118 #[v, .int .u64 ((u : Nat) : Int), .int .i64 10] I F (fun v' J F' => RowH 5 1 v' (n + (Lib.decDigits u).length) (xs ++ bcs (Lib.decDigits u)) F') := by
  have hnd := Lib.decDigits_length u
  have hn20 := Lib.nDigits_le20 u hu
  have hsz0 : (⟨(Lib.decDigits u).toArray⟩ : ByteArray).size = Lib.nDigits u := by rw [← hnd]; rfl
  refine enterM_rule 36 [(0, v), (1, .int .u64 ((u : Nat) : Int)), (2, .int .i64 10)] Tryd.func118 rfl (by kernel_rfl) ?_
  intro w s
  refine wp_seq ?_
  refine region_rule ?_
  refine ops_rule (C := []) [] F 1 [] 0 (fun φ1 => [(6, .slice none 0 0)]) (fun φ1 => []) (fun φ1 => []) s trivial (fun φ1 => by kernel_rfl) ?_
  intro φ1 w1 s
  refine ops_done (by kernel_rfl) ?_
  refine wp_seq ?_
  refine wp_seq ?_
  refine region_rule ?_
  refine ops_rule (C := []) [] F 2 [] 0 (fun φ2 => [(10, .bool true), (9, .int .i64 10)]) (fun φ2 => []) (fun φ2 => []) s trivial (fun φ2 => by kernel_rfl) ?_
  intro φ2 w2 s
  refine ops_done (by kernel_rfl) ?_
  refine cond_true_rule (b := true) (by kernel_rfl) rfl ?_
  refine wp_seq ?_
  refine wp_seq ?_
  refine region_rule ?_
  refine ops_rule (C := []) [] F 2 [] 0 (fun φ3 => [(12, .bool (decide (((u : Nat) : Int) < ((100 : Nat) : Int)))), (11, .int .u64 ((u : Nat) : Int))]) (fun φ3 => []) (fun φ3 => []) s trivial (fun φ3 => by kernel_rfl) ?_
  intro φ3 w3 s
  rw [nat_lss (a := u) (b := 100)]
  refine ops_done (by kernel_rfl) ?_
  rcases Bool.eq_false_or_eq_true (decide (u < 100)) with hc4 | hc4
  ·
    rw [hc4]
    refine cond_true_rule (b := true) (by kernel_rfl) rfl ?_
    refine wp_seq ?_
    refine region_rule ?_
    refine ops_rule (C := []) [] F 3 [] 0 (fun φ5 => [(15, .int .i64 (IntKind.wrap .i64 ((u : Nat) : Int))), (14, .int .u64 ((u : Nat) : Int)), (13, v)]) (fun φ5 => []) (fun φ5 => []) s trivial (fun φ5 => by kernel_rfl) ?_
    intro φ5 w5 s
    rw [nat_wrapI (a := u) (by have := of_decide_eq_true hc4; omega)]
    refine call_rule (some 16) s (small_c (i := u) (of_decide_eq_true hc4)) (by kernel_rfl) ?_
    intro v6 I6 w6 le6 h6 s
    replace hT := Tab.mono le6 hT
    obtain rfl := h6
    refine append_rule (H := []) (F := F) 22 9 5 Tryd.t5 (.int .u8 0) 1 1 (some 17) s Tryd.underlying22 (by kernel_rfl) (by kernel_rfl) (by kernel_rfl) (by kernel_rfl) (by kernel_rfl) (by decide) hrow (Src.ofString w6 Tryd.underlying9 ⟨(Lib.decDigits u).toArray⟩) (by simp only [maxLen]; omega) (by omega) (by kernel_rfl) ?_
    intro v7 w7 F7 s h7
    refine ops_rule (C := []) [] F7 1 [] 0 (fun φ8 => [(6, v7)]) (fun φ8 => []) (fun φ8 => []) s trivial (fun φ8 => by kernel_rfl) ?_
    intro φ8 w8 s
    refine ops_done (by kernel_rfl) ?_
    refine wp_ret ?_
    refine ret_rule (C := []) [] F7 (v7) [] [] s trivial (by kernel_rfl) ?_
    replace s := s.drop (List.sublist_append_right [] F7)
    exact ⟨_, _, _, rfl, s, (by rw [show n + (⟨(Lib.decDigits u).toArray⟩ : ByteArray).size = n + (Lib.decDigits u).length from rfl, show Go.byteCells ⟨(Lib.decDigits u).toArray⟩ = bcs (Lib.decDigits u) from rfl] at h7; exact h7)⟩
  ·
    rw [hc4]
    refine cond_false_rule (b := false) (by kernel_rfl) rfl ?_
    refine wp_skip ?_
    refine wp_seq ?_
    refine region_rule ?_
    refine ops_rule (C := []) [] F 1 [] 1 (fun φ9 => [(7, .pointer (some ⟨(φ9 0), 0, none⟩))]) (fun φ9 => [((φ9 0), .cells #[.int .u8 0, .int .u8 0, .int .u8 0, .int .u8 0, .int .u8 0, .int .u8 0, .int .u8 0, .int .u8 0, .int .u8 0, .int .u8 0, .int .u8 0, .int .u8 0, .int .u8 0, .int .u8 0, .int .u8 0, .int .u8 0, .int .u8 0, .int .u8 0, .int .u8 0, .int .u8 0, .int .u8 0, .int .u8 0, .int .u8 0, .int .u8 0] 171)]) (fun φ9 => []) s trivial (fun φ9 => by kernel_rfl) ?_
    intro φ9 w9 s
    refine ops_done (by kernel_rfl) ?_
    refine wp_seq ?_
    refine region_rule ?_
    refine ops_rule (C := []) [((φ9 0), .cells #[.int .u8 0, .int .u8 0, .int .u8 0, .int .u8 0, .int .u8 0, .int .u8 0, .int .u8 0, .int .u8 0, .int .u8 0, .int .u8 0, .int .u8 0, .int .u8 0, .int .u8 0, .int .u8 0, .int .u8 0, .int .u8 0, .int .u8 0, .int .u8 0, .int .u8 0, .int .u8 0, .int .u8 0, .int .u8 0, .int .u8 0, .int .u8 0] 171)] F 1 [] 0 (fun φ10 => [(18, .int .u64 ((u : Nat) : Int))]) (fun φ10 => [((φ9 0), .cells #[.int .u8 0, .int .u8 0, .int .u8 0, .int .u8 0, .int .u8 0, .int .u8 0, .int .u8 0, .int .u8 0, .int .u8 0, .int .u8 0, .int .u8 0, .int .u8 0, .int .u8 0, .int .u8 0, .int .u8 0, .int .u8 0, .int .u8 0, .int .u8 0, .int .u8 0, .int .u8 0, .int .u8 0, .int .u8 0, .int .u8 0, .int .u8 0] 171)]) (fun φ10 => []) s trivial (fun φ10 => by kernel_rfl) ?_
    intro φ10 w10 s
    refine call_rule (some 19) s (numDigits_c hT (by have := of_decide_eq_false hc4; omega) hu) (by kernel_rfl) ?_
    intro v11 I11 w11 le11 h11 s
    replace hT := Tab.mono le11 hT
    obtain rfl := h11
    refine ops_rule (C := []) [((φ9 0), .cells #[.int .u8 0, .int .u8 0, .int .u8 0, .int .u8 0, .int .u8 0, .int .u8 0, .int .u8 0, .int .u8 0, .int .u8 0, .int .u8 0, .int .u8 0, .int .u8 0, .int .u8 0, .int .u8 0, .int .u8 0, .int .u8 0, .int .u8 0, .int .u8 0, .int .u8 0, .int .u8 0, .int .u8 0, .int .u8 0, .int .u8 0, .int .u8 0] 171)] F 1 [] 0 (fun φ12 => [(8, .int .i64 ((Lib.nDigits u : Nat) : Int))]) (fun φ12 => [((φ9 0), .cells #[.int .u8 0, .int .u8 0, .int .u8 0, .int .u8 0, .int .u8 0, .int .u8 0, .int .u8 0, .int .u8 0, .int .u8 0, .int .u8 0, .int .u8 0, .int .u8 0, .int .u8 0, .int .u8 0, .int .u8 0, .int .u8 0, .int .u8 0, .int .u8 0, .int .u8 0, .int .u8 0, .int .u8 0, .int .u8 0, .int .u8 0, .int .u8 0] 171)]) (fun φ12 => []) s trivial (fun φ12 => by kernel_rfl) ?_
    intro φ12 w12 s
    refine ops_done (by kernel_rfl) ?_
    refine wp_seq ?_
    refine region_rule ?_
    refine ops_rule (C := []) [((φ9 0), .cells #[.int .u8 0, .int .u8 0, .int .u8 0, .int .u8 0, .int .u8 0, .int .u8 0, .int .u8 0, .int .u8 0, .int .u8 0, .int .u8 0, .int .u8 0, .int .u8 0, .int .u8 0, .int .u8 0, .int .u8 0, .int .u8 0, .int .u8 0, .int .u8 0, .int .u8 0, .int .u8 0, .int .u8 0, .int .u8 0, .int .u8 0, .int .u8 0] 171)] F 1 [] 0 (fun φ13 => [(20, .int .i64 ((Lib.nDigits u : Nat) : Int))]) (fun φ13 => [((φ9 0), .cells #[.int .u8 0, .int .u8 0, .int .u8 0, .int .u8 0, .int .u8 0, .int .u8 0, .int .u8 0, .int .u8 0, .int .u8 0, .int .u8 0, .int .u8 0, .int .u8 0, .int .u8 0, .int .u8 0, .int .u8 0, .int .u8 0, .int .u8 0, .int .u8 0, .int .u8 0, .int .u8 0, .int .u8 0, .int .u8 0, .int .u8 0, .int .u8 0] 171)]) (fun φ13 => []) s trivial (fun φ13 => by kernel_rfl) ?_
    intro φ13 w13 s
    refine sem_rule (Instr.sliceAt 171 (.pointer (some ⟨(φ9 0), 0, none⟩)) none (some (.int .i64 ((Lib.nDigits u : Nat) : Int))) none) (some 21) (.slice (some ⟨(φ9 0), 0, none⟩) (Lib.nDigits u) 24) (by kernel_rfl) (run_sliceArr Tryd.underlying171 (by omega) (fun _ => rfl)) ?_
    refine ops_rule (C := []) [((φ9 0), .cells #[.int .u8 0, .int .u8 0, .int .u8 0, .int .u8 0, .int .u8 0, .int .u8 0, .int .u8 0, .int .u8 0, .int .u8 0, .int .u8 0, .int .u8 0, .int .u8 0, .int .u8 0, .int .u8 0, .int .u8 0, .int .u8 0, .int .u8 0, .int .u8 0, .int .u8 0, .int .u8 0, .int .u8 0, .int .u8 0, .int .u8 0, .int .u8 0] 171)] F 1 [] 0 (fun φ14 => [(22, .int .u64 ((u : Nat) : Int))]) (fun φ14 => [((φ9 0), .cells #[.int .u8 0, .int .u8 0, .int .u8 0, .int .u8 0, .int .u8 0, .int .u8 0, .int .u8 0, .int .u8 0, .int .u8 0, .int .u8 0, .int .u8 0, .int .u8 0, .int .u8 0, .int .u8 0, .int .u8 0, .int .u8 0, .int .u8 0, .int .u8 0, .int .u8 0, .int .u8 0, .int .u8 0, .int .u8 0, .int .u8 0, .int .u8 0] 171)]) (fun φ14 => []) s trivial (fun φ14 => by kernel_rfl) ?_
    intro φ14 w14 s
    refine callM_rule (Hi := [((φ9 0), .cells Z20 171)]) (Hr := F) (some 23) s (format_c (u := u) hu) (by kernel_rfl) ?_
    rintro v15 I15 w15 H15 le15 ⟨rfl, cur15, rfl, hz15, hd15⟩ s
    replace hT := Tab.mono le15 hT
    refine ops_done (by kernel_rfl) ?_
    refine wp_seq ?_
    refine region_rule ?_
    refine ops_rule (C := []) [((φ9 0), .cells cur15 171)] F 2 [] 0 (fun φ16 => [(25, .int .i64 ((Lib.nDigits u : Nat) : Int)), (24, v)]) (fun φ16 => [((φ9 0), .cells cur15 171)]) (fun φ16 => []) s trivial (fun φ16 => by kernel_rfl) ?_
    intro φ16 w16 s
    refine sem_rule (Instr.sliceAt 171 (.pointer (some ⟨(φ9 0), 0, none⟩)) none (some (.int .i64 ((Lib.nDigits u : Nat) : Int))) none) (some 26) (.slice (some ⟨(φ9 0), 0, none⟩) (Lib.nDigits u) 24) (by kernel_rfl) (run_sliceArr Tryd.underlying171 (by omega) (fun _ => rfl)) ?_
    refine append_rule (H := [((φ9 0), .cells cur15 171)]) (F := F) 22 22 5 Tryd.t5 (.int .u8 0) 1 1 (some 27) s Tryd.underlying22 (by kernel_rfl) (by kernel_rfl) (by kernel_rfl) (by kernel_rfl) (by kernel_rfl) (by decide) hrow (src_own s 0 (φ9 0) cur15 171 22 5 (Lib.nDigits u) 24 1 (bcs (Lib.decDigits u)) (by kernel_rfl) Tryd.underlying22 hd15 (by rw [Lib.byteCells_length, Lib.decDigits_length]; omega) (one_bcs _)) (by simp only [maxLen]; omega) (by omega) (by kernel_rfl) ?_
    intro v17 w17 F17 s h17
    refine ops_rule (C := []) [((φ9 0), .cells cur15 171)] F17 1 [] 0 (fun φ18 => [(6, v17)]) (fun φ18 => [((φ9 0), .cells cur15 171)]) (fun φ18 => []) s trivial (fun φ18 => by kernel_rfl) ?_
    intro φ18 w18 s
    refine ops_done (by kernel_rfl) ?_
    refine wp_ret ?_
    refine ret_rule (C := []) [((φ9 0), .cells cur15 171)] F17 (v17) [] [] s trivial (by kernel_rfl) ?_
    replace s := s.drop (List.sublist_append_right [((φ9 0), .cells cur15 171)] F17)
    exact ⟨_, _, _, rfl, s, (by rw [← Lib.decDigits_length] at h17; exact h17)⟩

set_option maxHeartbeats 1000000 in
theorem appendUint_c {I : IM} {u n : Nat} {v : Value} {xs : List Value} {F : List OB} (hT : Tab I) (hu : u < 18446744073709551616) (hrow : RowH 5 1 v n xs F) (hlim : n + 20 ≤ 140737488355328) : FunM Tryd.prog 102 #[v, .int .u64 ((u : Nat) : Int), .int .i64 10] I F (fun v' J F' => RowH 5 1 v' (n + (Lib.decDigits u).length) (xs ++ bcs (Lib.decDigits u)) F') := by
  refine enterM_rule 11 [(0, v), (1, .int .u64 ((u : Nat) : Int)), (2, .int .i64 10)] Tryd.func102 rfl (by kernel_rfl) ?_
  intro w s
  refine wp_seq ?_
  refine region_rule ?_
  refine ops_rule (C := []) [] F 1 [] 0 (fun φ1 => [(6, .slice none 0 0)]) (fun φ1 => []) (fun φ1 => []) s trivial (fun φ1 => by kernel_rfl) ?_
  intro φ1 w1 s
  refine ops_done (by kernel_rfl) ?_
  refine wp_seq ?_
  refine region_rule ?_
  refine ops_rule (C := []) [] F 3 [] 0 (fun φ2 => [(9, .int .i64 10), (8, .int .u64 ((u : Nat) : Int)), (7, v)]) (fun φ2 => []) (fun φ2 => []) s trivial (fun φ2 => by kernel_rfl) ?_
  intro φ2 w2 s
  refine callF_rule (H := []) (F := F) (some 10) s (appendUint0_c hT hu hrow hlim) (by kernel_rfl) ?_
  intro v3 I3 w3 F3 le3 h3 s
  replace hT := Tab.mono le3 hT
  refine ops_rule (C := []) [] F3 1 [] 0 (fun φ4 => [(6, v3)]) (fun φ4 => []) (fun φ4 => []) s trivial (fun φ4 => by kernel_rfl) ?_
  intro φ4 w4 s
  refine ops_done (by kernel_rfl) ?_
  refine wp_ret ?_
  refine ret_rule (C := []) [] F3 (v3) [] [] s trivial (by kernel_rfl) ?_
  replace s := s.drop (List.sublist_append_right [] F3)
  exact ⟨_, _, _, rfl, s, h3⟩

end Go.Proofs.YtgdickihjaomjaaDoor
