/- Numbers as decimal digits, behind a row: strconv.AppendUint to the base 10. -/
import Derived.Test.YtgmigcmhnmmdkaaDoorCdS8
import Derived.Test.YtgmigcmhnmmdkaaDoorCdShelf
import Derived.Lib.ItoaLen
import Derived.Lib.ItoaMem
import Derived.Test.YtgmigcmhnmmdkaaDoorProg
import Derived.Test.YtgmigcmhnmmdkaaDoorCdS6
import Derived.Laws.BytesString
set_option linter.all false
set_option maxRecDepth 100000
namespace Go.Proofs.YtgmigcmhnmmdkaaDoor.Ev
open Go.RowKit Go.Sep Go.Sort Go.Lib

def Tab (I : IM) : Prop := ∀ w, I.Sub w → Lib.TabIs Tryd.prog w "internal/strconv.uint64pow10" .u64 Lib.pow10Tab
theorem Tab.mono {I J : IM} (le : I.Le J) (h : Tab I) : Tab J := fun w hw => h w (fun k o e => hw k o (le k o e))
abbrev bcs (l : List UInt8) : List Value := Lib.byteCells l
theorem small_c {I : IM} {i : Nat} (h : i < 100) : Fun Tryd.prog 120 #[.int .i64 ((i : Nat) : Int)] I (fun v _ => v = .string ⟨(Lib.decDigits i).toArray⟩) := fun w hw =>
  (Tryd.internal_strconv_small i h w).mono fun e w' ⟨he, hw'⟩ => by subst he; subst hw'; exact ⟨_, I, [], rfl, St.start hw, rfl⟩
theorem numDigits_c {I : IM} {u : Nat} (hT : Tab I) (h1 : 1 ≤ u) (h2 : u < 18446744073709551616) : Fun Tryd.prog 121 #[.int .u64 ((u : Nat) : Int)] I (fun v _ => v = .int .i64 ((Lib.nDigits u : Nat) : Int)) := fun w hw =>
  (Tryd.internal_strconv_numDigits u h1 h2 w (hT w hw)).mono fun e w' ⟨he, hw'⟩ => by subst he; subst hw'; exact ⟨_, I, [], rfl, St.start hw, rfl⟩
def Z20 : Array Value := #[.int .u8 0, .int .u8 0, .int .u8 0, .int .u8 0, .int .u8 0, .int .u8 0, .int .u8 0, .int .u8 0, .int .u8 0, .int .u8 0, .int .u8 0, .int .u8 0, .int .u8 0, .int .u8 0, .int .u8 0, .int .u8 0, .int .u8 0, .int .u8 0, .int .u8 0, .int .u8 0, .int .u8 0, .int .u8 0, .int .u8 0, .int .u8 0]
theorem st_drewN {w0 : World} {I0 : IM} {m : List Nat} {I : IM} {H : List OB} : ∀ {n : Nat} {w : World}, St w0 I0 m I w H → St w0 I0 m I (w.drewN n) H
  | 0, w, s => by simpa [World.drewN] using s
  | n + 1, w, s => ⟨s.sub, s.le, s.new, ⟨s.fr.os, s.fr.tape, s.fr.output, s.fr.size, s.fr.block⟩, s.own, s.free, s.fresh, s.nodup⟩
theorem format_c {I : IM} {b u : Nat} (h2 : u < 18446744073709551616) : FunM Tryd.prog 122 #[.slice (some ⟨b, 0, none⟩) (Lib.nDigits u) 24, .int .u64 ((u : Nat) : Int)] I [(b, .cells Z20 161)]
    (fun v J F' => v = .tuple #[] ∧ ∃ cur : Array Value, F' = [(b, .cells cur 161)] ∧ cur.size = 24 ∧ cur.toList.take (Lib.nDigits u * 1) = bcs (Lib.decDigits u)) := by
  intro w hI ho
  have hb : w.heap[b]? = some (.cells Z20 161 (0, 0)) := ho.own (b, _) (by simp)
  have hn := Lib.nDigits_le20 u h2
  have hsz : (Array.replicate (Lib.nDigits u) (0 : UInt8)).size = Lib.nDigits u := by simp
  have hH : Holds (fun (x : UInt8) => Value.int .u8 (x.toNat : Int)) w b 0 (Array.replicate (Lib.nDigits u) (0 : UInt8)) := fun j hj => by
    have hj' : j < 24 := by simp at hj; omega
    have e1 : (Array.replicate (Lib.nDigits u) (0 : UInt8))[j]! = 0 := by simp at hj; simp [hj]
    refine ⟨?_, (Sep.run_frozen (a := ⟨b, 0 + j, none⟩) hb rfl).trans (by simp)⟩
    rw [run_cell (a := ⟨b, 0 + j, none⟩) hb rfl rfl, e1]
    have : ∀ j, j < 24 → Z20[j]? = some (Value.int .u8 ((0 : UInt8).toNat : Int)) := by
      intro j hj
      match j, hj with
      | 0, _ => rfl
      | 1, _ => rfl
      | 2, _ => rfl
      | 3, _ => rfl
      | 4, _ => rfl
      | 5, _ => rfl
      | 6, _ => rfl
      | 7, _ => rfl
      | 8, _ => rfl
      | 9, _ => rfl
      | 10, _ => rfl
      | 11, _ => rfl
      | 12, _ => rfl
      | 13, _ => rfl
      | 14, _ => rfl
      | 15, _ => rfl
      | 16, _ => rfl
      | 17, _ => rfl
      | 18, _ => rfl
      | 19, _ => rfl
      | 20, _ => rfl
      | 21, _ => rfl
      | 22, _ => rfl
      | 23, _ => rfl
      | j + 24, h => omega
    simpa using this j hj'
  have hc := Tryd.internal_strconv_formatBase10 b 0 24 u (Array.replicate (Lib.nDigits u) (0 : UInt8)) w hH (by rw [hsz]; exact Lib.lt_pow_nDigits u) h2 (by rw [hsz]; omega)
  rw [hsz] at hc
  refine hc.mono ?_
  rintro e w' ⟨rfl, n, v', dk, rfl, hF⟩
  have s0 := St.startM hI ho
  have hdk : dk.size = Lib.nDigits u := hF.size
  have s1 : St w I [b] I (putRow (fun (x : UInt8) => Value.int .u8 (x.toNat : Int)) w b 0 dk) [(b, .cells (putCells (fun (x : UInt8) => Value.int .u8 (x.toNat : Int)) 0 dk Z20) 161)] := by
    have := St.set (i := 0) (k := b) (o' := .cells (putCells (fun (x : UInt8) => Value.int .u8 (x.toNat : Int)) 0 dk Z20) 161) (w' := putRow (fun (x : UInt8) => Value.int .u8 (x.toNat : Int)) w b 0 dk) s0 rfl rfl rfl rfl (by simp) (by
      show (w.heap.modify b _)[b]? = _
      rw [Array.getElem?_modify]; simp [hb]; rfl) (fun q hq => by
      simp only [putRow, mapBlock, Array.getElem?_modify]; rw [if_neg (fun h => hq h.symm)])
    exact this
  refine ⟨_, I, _, rfl, st_drewN s1, rfl, _, rfl, by simp only [putCells, Array.size_mapIdx]; rfl, ?_⟩
  rw [Nat.mul_one]
  apply List.ext_getElem?
  intro j
  rw [List.getElem?_take]
  split
  · rename_i hj
    have hl : j < (Lib.decDigits u).length := by rw [Lib.decDigits_length]; exact hj
    have := Lib.row_is_numeral hF j hl
    have hz : j < Z20.size := by have : Z20.size = 24 := rfl; omega
    simp only [putCells, Array.getElem?_toList, Array.getElem?_mapIdx, Lib.byteCells, List.getElem?_map, List.getElem?_eq_getElem hl, Option.map_some, this]
    rw [Array.getElem?_eq_getElem hz]
    simp [hdk, hj]
  · rename_i hj
    rw [List.getElem?_eq_none]
    rw [Lib.byteCells_length, Lib.decDigits_length]; omega
theorem one_bcs (l : List UInt8) : (bcs l).all (·.oneCell') = true := by simp [Lib.byteCells, Value.oneCell']

set_option maxHeartbeats 1000000 in
theorem appendUint0_c {I : IM} {u n : Nat} {v : Value} {xs : List Value} {F : List OB} (hT : Tab I) (hu : u < 18446744073709551616) (hrow : RowH 5 1 v n xs F) (hlim : n + 20 ≤ 140737488355328) : FunM Tryd.prog 109 #[v, .int .u64 ((u : Nat) : Int), .int .i64 10] I F (fun v' J F' => RowH 5 1 v' (n + (Lib.decDigits u).length) (xs ++ bcs (Lib.decDigits u)) F') := by
 have hnd := Lib.decDigits_length u
 have hn20 := Lib.nDigits_le20 u hu
 have hsz0 : (⟨(Lib.decDigits u).toArray⟩ : ByteArray).size = Lib.nDigits u := by rw [← hnd]; rfl
 refine enterM_rule 36 [(0, v), (1, .int .u64 u), (2, .int .i64 10)] Tryd.func109 rfl (by kernel_rfl) ?_
 intro w s
 refine seqR ?_
 refine oKD [] F 1 [] 0 (fun φ1 => [(6, .slice none 0 0)]) (fun φ1 => []) s (fun φ1 => by kernel_rfl) (by kernel_rfl) ?_
 intro φ1 w1 s
 refine wp_seq ?_
 refine seqR ?_
 refine oKD [] F 2 [] 0 (fun φ2 => [(10, .bool true), (9, .int .i64 10)]) (fun φ2 => []) s (fun φ2 => by kernel_rfl) (by kernel_rfl) ?_
 intro φ2 w2 s
 refine cond_true_rule (b := true) (by kernel_rfl) rfl ?_
 refine wp_seq ?_
 refine seqR ?_
 refine oK [] F 2 [] 0 (fun φ3 => [(12, .bool (decide (((u : Nat) : Int) < ((100 : Nat) : Int)))), (11, .int .u64 u)]) (fun φ3 => []) s (fun φ3 => by kernel_rfl) ?_
 intro φ3 w3 s
 rw [nat_lss (a := u) (b := 100)]
 refine ops_done (by kernel_rfl) ?_
 rcases Bool.eq_false_or_eq_true (decide (u < 100)) with hc4 | hc4
 ·
  rw [hc4]
  refine cond_true_rule (b := true) (by kernel_rfl) rfl ?_
  refine seqR ?_
  refine oK [] F 3 [] 0 (fun φ5 => [(15, .int .i64 (IntKind.wrap .i64 ((u : Nat) : Int))), (14, .int .u64 u), (13, v)]) (fun φ5 => []) s (fun φ5 => by kernel_rfl) ?_
  intro φ5 w5 s
  rw [nat_wrapI (a := u) (by have := of_decide_eq_true hc4; omega)]
  refine call_rule (some 16) s (small_c (i := u) (of_decide_eq_true hc4)) (by kernel_rfl) ?_
  intro v6 I6 w6 le6 h6 s
  replace hT := Tab.mono le6 hT
  obtain rfl := h6
  refine append_rule (H := []) (F := F) 22 9 5 Tryd.t5 (.int .u8 0) 1 1 (some 17) s Tryd.underlying22 (by kernel_rfl) (by kernel_rfl) (by kernel_rfl) (by kernel_rfl) (by kernel_rfl) (by decide) hrow (Src.ofString w6 Tryd.underlying9 ⟨(Lib.decDigits u).toArray⟩) (by simp only [maxLen]; omega) (by omega) (by kernel_rfl) ?_
  intro v7 w7 F7 s h7
  refine oKD [] F7 1 [] 0 (fun φ8 => [(6, v7)]) (fun φ8 => []) s (fun φ8 => by kernel_rfl) (by kernel_rfl) ?_
  intro φ8 w8 s
  refine wp_ret ?_
  refine ret_rule (C := []) [] F7 (v7) [] [] s trivial (by kernel_rfl) ?_
  replace s := s.drop (List.sublist_append_right [] F7)
  exact ⟨_, _, _, rfl, s, (by rw [show n + (⟨(Lib.decDigits u).toArray⟩ : ByteArray).size = n + (Lib.decDigits u).length from rfl, show Go.byteCells ⟨(Lib.decDigits u).toArray⟩ = bcs (Lib.decDigits u) from rfl] at h7; exact h7)⟩
 ·
  rw [hc4]
  refine cond_false_rule (b := false) (by kernel_rfl) rfl ?_
  refine wp_skip ?_
  refine seqR ?_
  refine oAD [] F 1 [] 1 (fun φ9 => [(7, pB (φ9 0))]) (fun φ9 => [(φ9 0, .cells #[.int .u8 0, .int .u8 0, .int .u8 0, .int .u8 0, .int .u8 0, .int .u8 0, .int .u8 0, .int .u8 0, .int .u8 0, .int .u8 0, .int .u8 0, .int .u8 0, .int .u8 0, .int .u8 0, .int .u8 0, .int .u8 0, .int .u8 0, .int .u8 0, .int .u8 0, .int .u8 0, .int .u8 0, .int .u8 0, .int .u8 0, .int .u8 0] 161)]) (fun φ9 => []) s (fun φ9 => by kernel_rfl) (by kernel_rfl) ?_
  intro φ9 w9 s
  refine seqR ?_
  refine oK _ F 1 [] 0 (fun φ10 => [(18, .int .u64 u)]) (fun φ10 => []) s (fun φ10 => by kernel_rfl) ?_
  intro φ10 w10 s
  refine call_rule (some 19) s (numDigits_c hT (by have := of_decide_eq_false hc4; omega) hu) (by kernel_rfl) ?_
  intro v11 I11 w11 le11 h11 s
  obtain rfl := h11
  refine oKD _ F 1 [] 0 (fun φ12 => [(8, .int .i64 (Lib.nDigits u))]) (fun φ12 => []) s (fun φ12 => by kernel_rfl) (by kernel_rfl) ?_
  intro φ12 w12 s
  refine seqR ?_
  refine oK _ F 1 [] 0 (fun φ13 => [(20, .int .i64 (Lib.nDigits u))]) (fun φ13 => []) s (fun φ13 => by kernel_rfl) ?_
  intro φ13 w13 s
  refine sem_rule (Instr.sliceAt 161 (pB (φ9 0)) none (some (.int .i64 (Lib.nDigits u))) none) (some 21) (.slice (some ⟨(φ9 0), 0, none⟩) (Lib.nDigits u) 24) (by kernel_rfl) (run_sliceArr Tryd.underlying161 (by omega) (fun _ => rfl)) ?_
  refine oK _ F 1 [] 0 (fun φ14 => [(22, .int .u64 u)]) (fun φ14 => []) s (fun φ14 => by kernel_rfl) ?_
  intro φ14 w14 s
  refine callM_rule (Hi := [(φ9 0, .cells Z20 161)]) (Hr := F) (some 23) s (format_c (u := u) hu) (by kernel_rfl) ?_
  rintro v15 I15 w15 H15 le15 ⟨rfl, cur15, rfl, hz15, hd15⟩ s
  refine ops_done (by kernel_rfl) ?_
  refine seqR ?_
  refine oK _ F 2 [] 0 (fun φ16 => [(25, .int .i64 (Lib.nDigits u)), (24, v)]) (fun φ16 => []) s (fun φ16 => by kernel_rfl) ?_
  intro φ16 w16 s
  refine sem_rule (Instr.sliceAt 161 (pB (φ9 0)) none (some (.int .i64 (Lib.nDigits u))) none) (some 26) (.slice (some ⟨(φ9 0), 0, none⟩) (Lib.nDigits u) 24) (by kernel_rfl) (run_sliceArr Tryd.underlying161 (by omega) (fun _ => rfl)) ?_
  refine append_rule (H := [(φ9 0, .cells cur15 161)]) (F := F) 22 22 5 Tryd.t5 (.int .u8 0) 1 1 (some 27) s Tryd.underlying22 (by kernel_rfl) (by kernel_rfl) (by kernel_rfl) (by kernel_rfl) (by kernel_rfl) (by decide) hrow (src_own s 0 (φ9 0) cur15 161 22 5 (Lib.nDigits u) 24 1 (bcs (Lib.decDigits u)) (by kernel_rfl) Tryd.underlying22 hd15 (by rw [Lib.byteCells_length, Lib.decDigits_length]; omega) (one_bcs _)) (by simp only [maxLen]; omega) (by omega) (by kernel_rfl) ?_
  intro v17 w17 F17 s h17
  refine oKD _ F17 1 [] 0 (fun φ18 => [(6, v17)]) (fun φ18 => []) s (fun φ18 => by kernel_rfl) (by kernel_rfl) ?_
  intro φ18 w18 s
  refine wp_ret ?_
  refine ret_rule (C := []) _ F17 (v17) [] [] s trivial (by kernel_rfl) ?_
  replace s := s.drop (List.sublist_append_right [((φ9 0), .cells cur15 161)] F17)
  exact ⟨_, _, _, rfl, s, (by rw [← Lib.decDigits_length] at h17; exact h17)⟩

set_option maxHeartbeats 1000000 in
theorem appendUint_c {I : IM} {u n : Nat} {v : Value} {xs : List Value} {F : List OB} (hT : Tab I) (hu : u < 18446744073709551616) (hrow : RowH 5 1 v n xs F) (hlim : n + 20 ≤ 140737488355328) : FunM Tryd.prog 87 #[v, .int .u64 ((u : Nat) : Int), .int .i64 10] I F (fun v' J F' => RowH 5 1 v' (n + (Lib.decDigits u).length) (xs ++ bcs (Lib.decDigits u)) F') := by
 refine enterM_rule 11 [(0, v), (1, .int .u64 u), (2, .int .i64 10)] Tryd.func87 rfl (by kernel_rfl) ?_
 intro w s
 refine seqR ?_
 refine oKD [] F 1 [] 0 (fun φ1 => [(6, .slice none 0 0)]) (fun φ1 => []) s (fun φ1 => by kernel_rfl) (by kernel_rfl) ?_
 intro φ1 w1 s
 refine seqR ?_
 refine oK [] F 3 [] 0 (fun φ2 => [(9, .int .i64 10), (8, .int .u64 u), (7, v)]) (fun φ2 => []) s (fun φ2 => by kernel_rfl) ?_
 intro φ2 w2 s
 refine callF_rule (F := F) (some 10) s (appendUint0_c hT hu hrow hlim) (by kernel_rfl) ?_
 intro v3 I3 w3 F3 le3 h3 s
 refine oKD [] F3 1 [] 0 (fun φ4 => [(6, v3)]) (fun φ4 => []) s (fun φ4 => by kernel_rfl) (by kernel_rfl) ?_
 intro φ4 w4 s
 refine wp_ret ?_
 refine ret_rule (C := []) [] F3 (v3) [] [] s trivial (by kernel_rfl) ?_
 replace s := s.drop (List.sublist_append_right [] F3)
 exact ⟨_, _, _, rfl, s, h3⟩

end Go.Proofs.YtgmigcmhnmmdkaaDoor.Ev

/- The program's event trees. -/
set_option linter.all false
set_option maxRecDepth 100000
namespace Go.Proofs.YtgmigcmhnmmdkaaDoor.Ev
open Go.RowKit Go.Sep

inductive E where
  | leaf (n : Nat)
  | node (n : Nat) (l r : E)
  deriving DecidableEq
def E.base : E → Nat
  | .leaf n => n
  | .node n _ _ => n
def E.top : E → Nat
  | .leaf n => n
  | .node n l r => n + max l.top r.top
def E.depth : E → Nat
  | .leaf _ => 0
  | .node _ l r => 1 + max l.depth r.depth
def E.isLeaf : E → Bool
  | .leaf _ => true
  | .node _ _ _ => false
def E.left : E → E
  | .leaf _ => .leaf 0
  | .node _ l _ => l
def E.right : E → E
  | .leaf _ => .leaf 0
  | .node _ _ r => r

def ERep (I : IM) : E → Nat → Option Addr → Prop
  | .leaf n, b, p => b = n ∧ p = none
  | .node n l r, b, p => b = n ∧ ∃ k bl pl br pr, p = some ⟨k, 0, none⟩ ∧
      I k = some (.cells #[.int .u64 ((bl : Nat) : Int), .pointer pl, .int .u64 ((br : Nat) : Int), .pointer pr, .int .u64 ((max l.top r.top : Nat) : Int), .int .i64 (((E.node n l r).depth : Nat) : Int)] 154) ∧ ERep I l bl pl ∧ ERep I r br pr
theorem ERep.mono {I J : IM} (le : I.Le J) : ∀ {t : E} {b : Nat} {p : Option Addr}, ERep I t b p → ERep J t b p
  | .leaf _, _, _, h => h
  | .node _ _ _, _, _, ⟨hb, k, bl, pl, br, pr, hp, hk, hl, hr⟩ => ⟨hb, k, bl, pl, br, pr, hp, le _ _ hk, hl.mono le, hr.mono le⟩
theorem ERep.base {I : IM} : ∀ {t : E} {b : Nat} {p : Option Addr}, ERep I t b p → b = t.base
  | .leaf _, _, _, h => h.1
  | .node _ _ _, _, _, h => h.1
theorem ERep.lf (I : IM) (b : Nat) : ERep I (.leaf b) b none := ⟨rfl, rfl⟩
abbrev evv (b : Nat) (p : Option Addr) : Value := .agg #[.int .u64 ((b : Nat) : Int), .pointer p]

set_option maxHeartbeats 400000 in
theorem isLeaf_c {I : IM} {t : E} {b : Nat} {p : Option Addr} (h : ERep I t b p) : Fun Tryd.prog 86 #[evv b p] I (fun v J => v = .bool t.isLeaf) := by
 cases t with
 | leaf n =>
  obtain ⟨rfl, rfl⟩ := h
  refine enter_rule 6 [(0, .agg #[.int .u64 b, .pointer none])] Tryd.func86 rfl (by kernel_rfl) ?_
  intro w s
  refine seqR ?_
  refine oAD [] [] 2 [] 1 (fun φ1 => [(2, .bool false), (1, pB (φ1 0))]) (fun φ1 => [(φ1 0, .cells #[.int .u64 b, .pointer none] 44)]) (fun φ1 => []) s (fun φ1 => by kernel_rfl) (by kernel_rfl) ?_
  intro φ1 w1 s
  refine seqR ?_
  refine oKD _ [] 4 [.o 0] 0 (fun φ2 => [(2, .bool true), (5, .bool true), (4, .pointer none), (3, .pointer (some ⟨(φ1 0), 1, none⟩))]) (fun φ2 => [(φ1 0)]) s (fun φ2 => by kernel_rfl) (by kernel_rfl) ?_
  intro φ2 w2 s
  refine wp_ret ?_
  refine ret_rule (C := []) _ [] (.bool true) [] [] s trivial (by kernel_rfl) ?_
  exact ⟨_, _, _, rfl, s, rfl⟩
 | node n l r =>
  have hn := h
  obtain ⟨rfl, k, bl, pl, br, pr, rfl, hk, hl, hr⟩ := h
  refine enter_rule 6 [(0, .agg #[.int .u64 b, pB k])] Tryd.func86 rfl (by kernel_rfl) ?_
  intro w s
  refine seqR ?_
  refine oAD [] [] 2 [] 1 (fun φ1 => [(2, .bool false), (1, pB (φ1 0))]) (fun φ1 => [(φ1 0, .cells #[.int .u64 b, pB k] 44)]) (fun φ1 => []) s (fun φ1 => by kernel_rfl) (by kernel_rfl) ?_
  intro φ1 w1 s
  refine seqR ?_
  refine oKD _ [] 4 [.o 0] 0 (fun φ2 => [(2, .bool false), (5, .bool false), (4, pB k), (3, .pointer (some ⟨(φ1 0), 1, none⟩))]) (fun φ2 => [(φ1 0)]) s (fun φ2 => by kernel_rfl) (by kernel_rfl) ?_
  intro φ2 w2 s
  refine wp_ret ?_
  refine ret_rule (C := []) _ [] (.bool false) [] [] s trivial (by kernel_rfl) ?_
  exact ⟨_, _, _, rfl, s, rfl⟩

set_option maxHeartbeats 400000 in
theorem base_c {I : IM} {t : E} {b : Nat} {p : Option Addr} (h : ERep I t b p) : Fun Tryd.prog 98 #[evv b p] I (fun v J => v = .int .u64 ((b : Nat) : Int)) := by
 cases t with
 | leaf n =>
  obtain ⟨rfl, rfl⟩ := h
  refine enter_rule 5 [(0, .agg #[.int .u64 b, .pointer none])] Tryd.func98 rfl (by kernel_rfl) ?_
  intro w s
  refine seqR ?_
  refine oAD [] [] 2 [] 1 (fun φ1 => [(2, .int .u64 0), (1, pB (φ1 0))]) (fun φ1 => [(φ1 0, .cells #[.int .u64 b, .pointer none] 44)]) (fun φ1 => []) s (fun φ1 => by kernel_rfl) (by kernel_rfl) ?_
  intro φ1 w1 s
  refine seqR ?_
  refine oKD _ [] 3 [.o 0] 0 (fun φ2 => [(2, .int .u64 b), (4, .int .u64 b), (3, pB (φ1 0))]) (fun φ2 => [(φ1 0)]) s (fun φ2 => by kernel_rfl) (by kernel_rfl) ?_
  intro φ2 w2 s
  refine wp_ret ?_
  refine ret_rule (C := []) _ [] (.int .u64 b) [] [] s trivial (by kernel_rfl) ?_
  exact ⟨_, _, _, rfl, s, rfl⟩
 | node n l r =>
  have hn := h
  obtain ⟨rfl, k, bl, pl, br, pr, rfl, hk, hl, hr⟩ := h
  refine enter_rule 5 [(0, .agg #[.int .u64 b, pB k])] Tryd.func98 rfl (by kernel_rfl) ?_
  intro w s
  refine seqR ?_
  refine oAD [] [] 2 [] 1 (fun φ1 => [(2, .int .u64 0), (1, pB (φ1 0))]) (fun φ1 => [(φ1 0, .cells #[.int .u64 b, pB k] 44)]) (fun φ1 => []) s (fun φ1 => by kernel_rfl) (by kernel_rfl) ?_
  intro φ1 w1 s
  refine seqR ?_
  refine oKD _ [] 3 [.o 0] 0 (fun φ2 => [(2, .int .u64 b), (4, .int .u64 b), (3, pB (φ1 0))]) (fun φ2 => [(φ1 0)]) s (fun φ2 => by kernel_rfl) (by kernel_rfl) ?_
  intro φ2 w2 s
  refine wp_ret ?_
  refine ret_rule (C := []) _ [] (.int .u64 b) [] [] s trivial (by kernel_rfl) ?_
  exact ⟨_, _, _, rfl, s, rfl⟩

set_option maxHeartbeats 400000 in
theorem left_c {I : IM} {t : E} {b : Nat} {p : Option Addr} (h : ERep I t b p) : Fun Tryd.prog 88 #[evv b p] I (fun v J => ∃ b' p', v = evv b' p' ∧ ERep J t.left b' p') := by
 cases t with
 | leaf n =>
  obtain ⟨rfl, rfl⟩ := h
  refine enter_rule 11 [(0, .agg #[.int .u64 b, .pointer none])] Tryd.func88 rfl (by kernel_rfl) ?_
  intro w s
  refine seqR ?_
  refine oAD [] [] 2 [] 2 (fun φ1 => [(2, pB (φ1 1)), (1, pB (φ1 0))]) (fun φ1 => [(φ1 0, .cells #[.int .u64 b, .pointer none] 44), (φ1 1, .cells #[.int .u64 0, .pointer none] 44)]) (fun φ1 => []) s (fun φ1 => by kernel_rfl) (by kernel_rfl) ?_
  intro φ1 w1 s
  refine wp_seq ?_
  refine seqR ?_
  refine oK _ [] 1 [.o 0, .o 0] 0 (fun φ2 => [(3, .agg #[.int .u64 b, .pointer none])]) (fun φ2 => [φ1 0, φ1 0]) s (fun φ2 => by kernel_rfl) ?_
  intro φ2 w2 s
  refine call_rule (some 4) s (isLeaf_c (ERep.lf _ b)) (by kernel_rfl) ?_
  intro v3 I3 w3 le3 h3 s
  obtain rfl := h3
  refine ops_done (by kernel_rfl) ?_
  refine cond_true_rule (b := true) (by kernel_rfl) rfl ?_
  refine seqR ?_
  refine oKD _ [] 2 [.o 1, .o 1] 0 (fun φ4 => [(5, .agg #[.int .u64 0, .pointer none])]) (fun φ4 => [φ1 1, φ1 1]) s (fun φ4 => by kernel_rfl) (by kernel_rfl) ?_
  intro φ4 w4 s
  refine wp_ret ?_
  refine ret_rule (C := []) _ [] (.agg #[.int .u64 0, .pointer none]) [.o 1, .o 1] [φ1 1, φ1 1] s trivial (by kernel_rfl) ?_
  exact ⟨_, _, _, rfl, s, ⟨0, none, rfl, rfl, rfl⟩⟩
 | node n l r =>
  have hn := h
  obtain ⟨rfl, k, bl, pl, br, pr, rfl, hk, hl, hr⟩ := h
  refine enter_rule 11 [(0, .agg #[.int .u64 b, pB k])] Tryd.func88 rfl (by kernel_rfl) ?_
  intro w s
  refine seqR ?_
  refine oAD [] [] 2 [] 2 (fun φ1 => [(2, pB (φ1 1)), (1, pB (φ1 0))]) (fun φ1 => [(φ1 0, .cells #[.int .u64 b, pB k] 44), (φ1 1, .cells #[.int .u64 0, .pointer none] 44)]) (fun φ1 => []) s (fun φ1 => by kernel_rfl) (by kernel_rfl) ?_
  intro φ1 w1 s
  refine wp_seq ?_
  refine seqR ?_
  refine oK _ [] 1 [.o 0, .o 0] 0 (fun φ2 => [(3, .agg #[.int .u64 b, pB k])]) (fun φ2 => [φ1 0, φ1 0]) s (fun φ2 => by kernel_rfl) ?_
  intro φ2 w2 s
  refine call_rule (some 4) s (isLeaf_c hn) (by kernel_rfl) ?_
  intro v3 I3 w3 le3 h3 s
  replace hl := ERep.mono le3 hl
  replace hk := le3 _ _ hk
  obtain rfl := h3
  refine ops_done (by kernel_rfl) ?_
  refine cond_false_rule (b := false) (by kernel_rfl) rfl ?_
  refine wp_skip ?_
  refine seqR ?_
  refine ops_rule (C := [(k, .cells #[.int .u64 bl, .pointer pl, .int .u64 br, .pointer pr, .int .u64 ((max (E.top l) (E.top r) : Nat) : Int), .int .i64 (E.depth (E.node b l r))] 154)]) _ [] 6 [.o 0, .c 0, .c 0, .o 1, .o 1] 0 (fun φ4 => [(10, .agg #[.int .u64 bl, .pointer pl]), (9, pB k), (8, pB k), (7, pB k), (6, .pointer (some ⟨(φ1 0), 1, none⟩))]) (fun φ4 => [(φ1 0, .cells #[.int .u64 b, pB k] 44), (φ1 1, .cells #[.int .u64 bl, .pointer pl] 44)]) (fun φ4 => [φ1 0, k, k, φ1 1, φ1 1]) s ⟨hk, trivial⟩ (fun φ4 => by kernel_rfl) ?_
  intro φ4 w4 s
  refine ops_done (by kernel_rfl) ?_
  refine wp_ret ?_
  refine ret_rule (C := []) _ [] (.agg #[.int .u64 bl, .pointer pl]) [.o 1, .o 1] [φ1 1, φ1 1] s trivial (by kernel_rfl) ?_
  exact ⟨_, _, _, rfl, s, ⟨_, _, rfl, hl⟩⟩

set_option maxHeartbeats 400000 in
theorem right_c {I : IM} {t : E} {b : Nat} {p : Option Addr} (h : ERep I t b p) : Fun Tryd.prog 89 #[evv b p] I (fun v J => ∃ b' p', v = evv b' p' ∧ ERep J t.right b' p') := by
 cases t with
 | leaf n =>
  obtain ⟨rfl, rfl⟩ := h
  refine enter_rule 11 [(0, .agg #[.int .u64 b, .pointer none])] Tryd.func89 rfl (by kernel_rfl) ?_
  intro w s
  refine seqR ?_
  refine oAD [] [] 2 [] 2 (fun φ1 => [(2, pB (φ1 1)), (1, pB (φ1 0))]) (fun φ1 => [(φ1 0, .cells #[.int .u64 b, .pointer none] 44), (φ1 1, .cells #[.int .u64 0, .pointer none] 44)]) (fun φ1 => []) s (fun φ1 => by kernel_rfl) (by kernel_rfl) ?_
  intro φ1 w1 s
  refine wp_seq ?_
  refine seqR ?_
  refine oK _ [] 1 [.o 0, .o 0] 0 (fun φ2 => [(3, .agg #[.int .u64 b, .pointer none])]) (fun φ2 => [φ1 0, φ1 0]) s (fun φ2 => by kernel_rfl) ?_
  intro φ2 w2 s
  refine call_rule (some 4) s (isLeaf_c (ERep.lf _ b)) (by kernel_rfl) ?_
  intro v3 I3 w3 le3 h3 s
  obtain rfl := h3
  refine ops_done (by kernel_rfl) ?_
  refine cond_true_rule (b := true) (by kernel_rfl) rfl ?_
  refine seqR ?_
  refine oKD _ [] 2 [.o 1, .o 1] 0 (fun φ4 => [(5, .agg #[.int .u64 0, .pointer none])]) (fun φ4 => [φ1 1, φ1 1]) s (fun φ4 => by kernel_rfl) (by kernel_rfl) ?_
  intro φ4 w4 s
  refine wp_ret ?_
  refine ret_rule (C := []) _ [] (.agg #[.int .u64 0, .pointer none]) [.o 1, .o 1] [φ1 1, φ1 1] s trivial (by kernel_rfl) ?_
  exact ⟨_, _, _, rfl, s, ⟨0, none, rfl, rfl, rfl⟩⟩
 | node n l r =>
  have hn := h
  obtain ⟨rfl, k, bl, pl, br, pr, rfl, hk, hl, hr⟩ := h
  refine enter_rule 11 [(0, .agg #[.int .u64 b, pB k])] Tryd.func89 rfl (by kernel_rfl) ?_
  intro w s
  refine seqR ?_
  refine oAD [] [] 2 [] 2 (fun φ1 => [(2, pB (φ1 1)), (1, pB (φ1 0))]) (fun φ1 => [(φ1 0, .cells #[.int .u64 b, pB k] 44), (φ1 1, .cells #[.int .u64 0, .pointer none] 44)]) (fun φ1 => []) s (fun φ1 => by kernel_rfl) (by kernel_rfl) ?_
  intro φ1 w1 s
  refine wp_seq ?_
  refine seqR ?_
  refine oK _ [] 1 [.o 0, .o 0] 0 (fun φ2 => [(3, .agg #[.int .u64 b, pB k])]) (fun φ2 => [φ1 0, φ1 0]) s (fun φ2 => by kernel_rfl) ?_
  intro φ2 w2 s
  refine call_rule (some 4) s (isLeaf_c hn) (by kernel_rfl) ?_
  intro v3 I3 w3 le3 h3 s
  replace hr := ERep.mono le3 hr
  replace hk := le3 _ _ hk
  obtain rfl := h3
  refine ops_done (by kernel_rfl) ?_
  refine cond_false_rule (b := false) (by kernel_rfl) rfl ?_
  refine wp_skip ?_
  refine seqR ?_
  refine ops_rule (C := [(k, .cells #[.int .u64 bl, .pointer pl, .int .u64 br, .pointer pr, .int .u64 ((max (E.top l) (E.top r) : Nat) : Int), .int .i64 (E.depth (E.node b l r))] 154)]) _ [] 6 [.o 0, .c 0, .c 0, .o 1, .o 1] 0 (fun φ4 => [(10, .agg #[.int .u64 br, .pointer pr]), (9, .pointer (some ⟨k, 2, none⟩)), (8, pB k), (7, pB k), (6, .pointer (some ⟨(φ1 0), 1, none⟩))]) (fun φ4 => [(φ1 0, .cells #[.int .u64 b, pB k] 44), (φ1 1, .cells #[.int .u64 br, .pointer pr] 44)]) (fun φ4 => [φ1 0, k, k, φ1 1, φ1 1]) s ⟨hk, trivial⟩ (fun φ4 => by kernel_rfl) ?_
  intro φ4 w4 s
  refine ops_done (by kernel_rfl) ?_
  refine wp_ret ?_
  refine ret_rule (C := []) _ [] (.agg #[.int .u64 br, .pointer pr]) [.o 1, .o 1] [φ1 1, φ1 1] s trivial (by kernel_rfl) ?_
  exact ⟨_, _, _, rfl, s, ⟨_, _, rfl, hr⟩⟩

set_option maxHeartbeats 400000 in
theorem depth_c {I : IM} {t : E} {b : Nat} {p : Option Addr} (h : ERep I t b p) : Fun Tryd.prog 118 #[evv b p] I (fun v J => v = .int .i64 ((t.depth : Nat) : Int)) := by
 cases t with
 | leaf n =>
  obtain ⟨rfl, rfl⟩ := h
  refine enter_rule 10 [(0, .agg #[.int .u64 b, .pointer none])] Tryd.func118 rfl (by kernel_rfl) ?_
  intro w s
  refine seqR ?_
  refine oAD [] [] 2 [] 1 (fun φ1 => [(2, .int .i64 0), (1, pB (φ1 0))]) (fun φ1 => [(φ1 0, .cells #[.int .u64 b, .pointer none] 44)]) (fun φ1 => []) s (fun φ1 => by kernel_rfl) (by kernel_rfl) ?_
  intro φ1 w1 s
  refine wp_seq ?_
  refine seqR ?_
  refine oK _ [] 1 [.o 0, .o 0] 0 (fun φ2 => [(3, .agg #[.int .u64 b, .pointer none])]) (fun φ2 => [φ1 0, φ1 0]) s (fun φ2 => by kernel_rfl) ?_
  intro φ2 w2 s
  refine call_rule (some 4) s (isLeaf_c (ERep.lf _ b)) (by kernel_rfl) ?_
  intro v3 I3 w3 le3 h3 s
  obtain rfl := h3
  refine ops_done (by kernel_rfl) ?_
  refine cond_true_rule (b := true) (by kernel_rfl) rfl ?_
  refine seqR ?_
  refine oKD _ [] 1 [] 0 (fun φ4 => [(2, .int .i64 0)]) (fun φ4 => []) s (fun φ4 => by kernel_rfl) (by kernel_rfl) ?_
  intro φ4 w4 s
  refine wp_ret ?_
  refine ret_rule (C := []) _ [] (.int .i64 0) [] [] s trivial (by kernel_rfl) ?_
  exact ⟨_, _, _, rfl, s, rfl⟩
 | node n l r =>
  have hn := h
  obtain ⟨rfl, k, bl, pl, br, pr, rfl, hk, hl, hr⟩ := h
  refine enter_rule 10 [(0, .agg #[.int .u64 b, pB k])] Tryd.func118 rfl (by kernel_rfl) ?_
  intro w s
  refine seqR ?_
  refine oAD [] [] 2 [] 1 (fun φ1 => [(2, .int .i64 0), (1, pB (φ1 0))]) (fun φ1 => [(φ1 0, .cells #[.int .u64 b, pB k] 44)]) (fun φ1 => []) s (fun φ1 => by kernel_rfl) (by kernel_rfl) ?_
  intro φ1 w1 s
  refine wp_seq ?_
  refine seqR ?_
  refine oK _ [] 1 [.o 0, .o 0] 0 (fun φ2 => [(3, .agg #[.int .u64 b, pB k])]) (fun φ2 => [φ1 0, φ1 0]) s (fun φ2 => by kernel_rfl) ?_
  intro φ2 w2 s
  refine call_rule (some 4) s (isLeaf_c hn) (by kernel_rfl) ?_
  intro v3 I3 w3 le3 h3 s
  replace hk := le3 _ _ hk
  obtain rfl := h3
  refine ops_done (by kernel_rfl) ?_
  refine cond_false_rule (b := false) (by kernel_rfl) rfl ?_
  refine wp_skip ?_
  refine seqR ?_
  refine ops_rule (C := [(k, .cells #[.int .u64 bl, .pointer pl, .int .u64 br, .pointer pr, .int .u64 ((max (E.top l) (E.top r) : Nat) : Int), .int .i64 (E.depth (E.node b l r))] 154)]) _ [] 6 [.o 0, .c 0] 0 (fun φ4 => [(2, .int .i64 (E.depth (E.node b l r))), (9, .int .i64 (E.depth (E.node b l r))), (8, .pointer (some ⟨k, 5, none⟩)), (7, pB k), (6, pB k), (5, .pointer (some ⟨(φ1 0), 1, none⟩))]) (fun φ4 => [(φ1 0, .cells #[.int .u64 b, pB k] 44)]) (fun φ4 => [φ1 0, k]) s ⟨hk, trivial⟩ (fun φ4 => by kernel_rfl) ?_
  intro φ4 w4 s
  refine ops_done (by kernel_rfl) ?_
  refine wp_ret ?_
  refine ret_rule (C := []) _ [] (.int .i64 (E.depth (E.node b l r))) [] [] s trivial (by kernel_rfl) ?_
  exact ⟨_, _, _, rfl, s, rfl⟩

set_option maxHeartbeats 400000 in
theorem min_c {I : IM} {t : E} {b : Nat} {p : Option Addr} (h : ERep I t b p) : Fun Tryd.prog 116 #[evv b p] I (fun v J => v = .int .u64 ((b : Nat) : Int)) := by
 cases t with
 | leaf n =>
  obtain ⟨rfl, rfl⟩ := h
  refine enter_rule 5 [(0, .agg #[.int .u64 b, .pointer none])] Tryd.func116 rfl (by kernel_rfl) ?_
  intro w s
  refine seqR ?_
  refine oAD [] [] 2 [] 1 (fun φ1 => [(2, .int .u64 0), (1, pB (φ1 0))]) (fun φ1 => [(φ1 0, .cells #[.int .u64 b, .pointer none] 44)]) (fun φ1 => []) s (fun φ1 => by kernel_rfl) (by kernel_rfl) ?_
  intro φ1 w1 s
  refine seqR ?_
  refine oKD _ [] 3 [.o 0] 0 (fun φ2 => [(2, .int .u64 b), (4, .int .u64 b), (3, pB (φ1 0))]) (fun φ2 => [(φ1 0)]) s (fun φ2 => by kernel_rfl) (by kernel_rfl) ?_
  intro φ2 w2 s
  refine wp_ret ?_
  refine ret_rule (C := []) _ [] (.int .u64 b) [] [] s trivial (by kernel_rfl) ?_
  exact ⟨_, _, _, rfl, s, rfl⟩
 | node n l r =>
  have hn := h
  obtain ⟨rfl, k, bl, pl, br, pr, rfl, hk, hl, hr⟩ := h
  refine enter_rule 5 [(0, .agg #[.int .u64 b, pB k])] Tryd.func116 rfl (by kernel_rfl) ?_
  intro w s
  refine seqR ?_
  refine oAD [] [] 2 [] 1 (fun φ1 => [(2, .int .u64 0), (1, pB (φ1 0))]) (fun φ1 => [(φ1 0, .cells #[.int .u64 b, pB k] 44)]) (fun φ1 => []) s (fun φ1 => by kernel_rfl) (by kernel_rfl) ?_
  intro φ1 w1 s
  refine seqR ?_
  refine oKD _ [] 3 [.o 0] 0 (fun φ2 => [(2, .int .u64 b), (4, .int .u64 b), (3, pB (φ1 0))]) (fun φ2 => [(φ1 0)]) s (fun φ2 => by kernel_rfl) (by kernel_rfl) ?_
  intro φ2 w2 s
  refine wp_ret ?_
  refine ret_rule (C := []) _ [] (.int .u64 b) [] [] s trivial (by kernel_rfl) ?_
  exact ⟨_, _, _, rfl, s, rfl⟩

set_option maxHeartbeats 400000 in
theorem max_c {I : IM} {t : E} {b : Nat} {p : Option Addr} (h : ERep I t b p) (ht : t.top < 18446744073709551616) : Fun Tryd.prog 117 #[evv b p] I (fun v J => v = .int .u64 ((t.top : Nat) : Int)) := by
 cases t with
 | leaf n =>
  obtain ⟨rfl, rfl⟩ := h
  refine enter_rule 15 [(0, .agg #[.int .u64 b, .pointer none])] Tryd.func117 rfl (by kernel_rfl) ?_
  intro w s
  refine seqR ?_
  refine oAD [] [] 2 [] 1 (fun φ1 => [(2, .int .u64 0), (1, pB (φ1 0))]) (fun φ1 => [(φ1 0, .cells #[.int .u64 b, .pointer none] 44)]) (fun φ1 => []) s (fun φ1 => by kernel_rfl) (by kernel_rfl) ?_
  intro φ1 w1 s
  refine wp_seq ?_
  refine seqR ?_
  refine oK _ [] 1 [.o 0, .o 0] 0 (fun φ2 => [(3, .agg #[.int .u64 b, .pointer none])]) (fun φ2 => [φ1 0, φ1 0]) s (fun φ2 => by kernel_rfl) ?_
  intro φ2 w2 s
  refine call_rule (some 4) s (isLeaf_c (ERep.lf _ b)) (by kernel_rfl) ?_
  intro v3 I3 w3 le3 h3 s
  obtain rfl := h3
  refine ops_done (by kernel_rfl) ?_
  refine cond_true_rule (b := true) (by kernel_rfl) rfl ?_
  refine seqR ?_
  refine oKD _ [] 3 [.o 0] 0 (fun φ4 => [(2, .int .u64 b), (6, .int .u64 b), (5, pB (φ1 0))]) (fun φ4 => [(φ1 0)]) s (fun φ4 => by kernel_rfl) (by kernel_rfl) ?_
  intro φ4 w4 s
  refine wp_ret ?_
  refine ret_rule (C := []) _ [] (.int .u64 b) [] [] s trivial (by kernel_rfl) ?_
  exact ⟨_, _, _, rfl, s, rfl⟩
 | node n l r =>
  have hn := h
  obtain ⟨rfl, k, bl, pl, br, pr, rfl, hk, hl, hr⟩ := h
  refine enter_rule 15 [(0, .agg #[.int .u64 b, pB k])] Tryd.func117 rfl (by kernel_rfl) ?_
  intro w s
  refine seqR ?_
  refine oAD [] [] 2 [] 1 (fun φ1 => [(2, .int .u64 0), (1, pB (φ1 0))]) (fun φ1 => [(φ1 0, .cells #[.int .u64 b, pB k] 44)]) (fun φ1 => []) s (fun φ1 => by kernel_rfl) (by kernel_rfl) ?_
  intro φ1 w1 s
  refine wp_seq ?_
  refine seqR ?_
  refine oK _ [] 1 [.o 0, .o 0] 0 (fun φ2 => [(3, .agg #[.int .u64 b, pB k])]) (fun φ2 => [φ1 0, φ1 0]) s (fun φ2 => by kernel_rfl) ?_
  intro φ2 w2 s
  refine call_rule (some 4) s (isLeaf_c hn) (by kernel_rfl) ?_
  intro v3 I3 w3 le3 h3 s
  replace hk := le3 _ _ hk
  obtain rfl := h3
  refine ops_done (by kernel_rfl) ?_
  refine cond_false_rule (b := false) (by kernel_rfl) rfl ?_
  refine wp_skip ?_
  refine wp_seq ?_
  refine draw_rule (C := [(k, .cells #[.int .u64 bl, .pointer pl, .int .u64 br, .pointer pr, .int .u64 ((max (E.top l) (E.top r) : Nat) : Int), .int .i64 (E.depth (E.node b l r))] 154)]) ⟨(fun φ4 xs4 => [.look 0 [] [], .look 0 [.o 0] [(φ1 0)], .look 0 [] [], .look 0 [.o 0] [(φ1 0)], .look 0 [] [], .look 0 [] [], .look 0 [.c 0] [k], .sub 0 [] [] (.int .u64 (IntKind.wrap .u64 (((b : Nat) : Int) + ((max (E.top l) (E.top r) : Nat) : Int)))), .look 0 [] []]), (fun φ4 xs4 => [pB (φ1 0), .int .u64 b, .pointer (some ⟨(φ1 0), 1, none⟩), pB k, pB k, .pointer (some ⟨k, 4, none⟩), .int .u64 ((max (E.top l) (E.top r) : Nat) : Int), .int .u64 ((b + (max (E.top l) (E.top r)) : Nat) : Int), .int .u64 ((b + (max (E.top l) (E.top r)) : Nat) : Int)]), (fun φ4 xs4 => [[(φ1 0, .cells #[.int .u64 b, pB k] 44)]]), (fun φ4 xs4 => [[default, default, default, default, default, default, default, default, default]]), [], [1, 1, 1, 1, 1, 1, 1, 5, 1]⟩ (fun j => ([MP.any] : List MP).getD j MP.any) [] [7] [] (fun φ4 xs4 => []) (fun φ4 xs4 => [(7, pB (φ1 0)), (8, .int .u64 b), (9, .pointer (some ⟨(φ1 0), 1, none⟩)), (10, pB k), (11, pB k), (12, .pointer (some ⟨k, 4, none⟩)), (13, .int .u64 ((max (E.top l) (E.top r) : Nat) : Int)), (14, .int .u64 ((b + (max (E.top l) (E.top r)) : Nat) : Int)), (2, .int .u64 ((b + (max (E.top l) (E.top r)) : Nat) : Int))]) (fun φ4 xs4 => [(φ1 0, .cells #[.int .u64 b, pB k] 44)]) s ⟨hk, trivial⟩ (by kernel_rfl) (by kernel_rfl) (fun _ _ => by kernel_rfl) (fun _ _ => by kernel_rfl) ⟨fun _ _ => by kernel_rfl, fun _ _ => by kernel_rfl, fun _ _ => by kernel_rfl, fun _ _ => by kernel_rfl⟩ (fun _ _ _ => by kernel_rfl) (fun _ _ => by kernel_rfl) (fun _ _ => by kernel_rfl) (fun _ _ => by kernel_rfl) (fun _ _ => by kernel_rfl) (fun _ _ => by kernel_rfl) ⟨kcast (A := ∀ (φ4 : Nat → Nat) (xs4 : Xs), (.int .u64 (IntKind.wrap .u64 (((b : Nat) : Int) + ((max (E.top l) (E.top r) : Nat) : Int))) : Value) = .int .u64 ((b + (max (E.top l) (E.top r)) : Nat) : Int)) (by kernel_rfl) (fun φ4 xs4 => congrArg (Value.int .u64) ((nat_addU (a := b) (b := (max (E.top l) (E.top r))) (by simpa [E.top] using ht)))), trivial⟩ trivial (by kernel_rfl) trivial ?k4
  case k4 =>
   rintro φ4 xs4 I4 w4 le4 s 
   refine wp_ret ?_
   refine ret_rule (C := []) [(φ1 0, .cells #[.int .u64 b, pB k] 44)] [] (.int .u64 ((b + (max (E.top l) (E.top r)) : Nat) : Int)) [] [] s trivial (by kernel_rfl) ?_
   exact ⟨_, _, _, rfl, s, rfl⟩

end Go.Proofs.YtgmigcmhnmmdkaaDoor.Ev

/- The program's event trees: lift, whole, Leaf, node, Node, Leq, Join, Same. -/
set_option linter.all false
set_option maxRecDepth 100000
namespace Go.Proofs.YtgmigcmhnmmdkaaDoor.Ev
open Go.RowKit Go.Sep

def E.up (n : Nat) : E → E
  | .leaf m => .leaf (m + n)
  | .node m l r => .node (m + n) l r
def E.dn (n : Nat) : E → E
  | .leaf m => .leaf (m - n)
  | .node m l r => .node (m - n) l r
theorem ERep.up {I : IM} (n : Nat) : ∀ {t : E} {b : Nat} {p : Option Addr}, ERep I t b p → ERep I (E.up n t) (b + n) p
  | .leaf _, _, _, h => ⟨by rw [h.1], h.2⟩
  | .node _ _ _, _, _, ⟨hb, k, bl, pl, br, pr, hp, hk, hl, hr⟩ => ⟨by rw [hb], k, bl, pl, br, pr, hp, hk, hl, hr⟩
theorem ERep.dn {I : IM} (n : Nat) : ∀ {t : E} {b : Nat} {p : Option Addr}, ERep I t b p → ERep I (E.dn n t) (b - n) p
  | .leaf _, _, _, h => ⟨by rw [h.1], h.2⟩
  | .node _ _ _, _, _, ⟨hb, k, bl, pl, br, pr, hp, hk, hl, hr⟩ => ⟨by rw [hb], k, bl, pl, br, pr, hp, hk, hl, hr⟩
theorem E.base_le : ∀ t : E, t.base ≤ t.top
  | .leaf _ => Nat.le_refl _
  | .node _ _ _ => by simp only [E.base, E.top]; omega
theorem E.dn_top (n : Nat) : ∀ t : E, (E.dn n t).top ≤ t.top
  | .leaf _ => by simp only [E.dn, E.top]; omega
  | .node _ _ _ => by simp only [E.dn, E.top]; omega
theorem E.dn_depth (n : Nat) : ∀ t : E, (E.dn n t).depth = t.depth
  | .leaf _ => rfl
  | .node _ _ _ => rfl
def E.mk (n : Nat) (l r : E) : E := if l.isLeaf = true ∧ r.isLeaf = true ∧ l.base = r.base then .leaf (n + l.base) else
  .node (n + min l.base r.base) (E.dn (min l.base r.base) l) (E.dn (min l.base r.base) r)

set_option maxHeartbeats 400000 in
theorem leafOk_c {I : IM} {n : Nat} (hn : n ≤ 1048576) : Fun Tryd.prog 78 #[.int .u64 ((n : Nat) : Int)] I (fun v J => v = .tuple #[evv n none, .int .i64 0]) := by
 refine enter_rule 9 [(0, .int .u64 n)] Tryd.func78 rfl (by kernel_rfl) ?_
 intro w s
 refine seqR ?_
 refine oAD [] [] 2 [] 1 (fun φ1 => [(3, .int .i64 0), (2, pB (φ1 0))]) (fun φ1 => [(φ1 0, .cells #[.int .u64 0, .pointer none] 44)]) (fun φ1 => []) s (fun φ1 => by kernel_rfl) (by kernel_rfl) ?_
 intro φ1 w1 s
 refine wp_seq ?_
 refine seqR ?_
 refine oK _ [] 2 [] 0 (fun φ2 => [(5, .bool (decide (((n : Nat) : Int) > ((1048576 : Nat) : Int)))), (4, .int .u64 n)]) (fun φ2 => []) s (fun φ2 => by kernel_rfl) ?_
 intro φ2 w2 s
 rw [nat_gtr (a := n) (b := 1048576)]
 refine ops_done (by kernel_rfl) ?_
 rcases Bool.eq_false_or_eq_true (decide (1048576 < n)) with hc3 | hc3
 ·
  simp at hc3; omega
 ·
  rw [hc3]
  refine cond_false_rule (b := false) (by kernel_rfl) rfl ?_
  refine wp_skip ?_
  refine seqR ?_
  refine oAD _ [] 4 [.o 0, .o 0] 0 (fun φ4 => [(3, .int .i64 0), (8, .agg #[.int .u64 n, .pointer none]), (7, .int .u64 n)]) (fun φ4 => [(φ1 0, .cells #[.int .u64 n, .pointer none] 44)]) (fun φ4 => [φ1 0, φ1 0]) s (fun φ4 => by kernel_rfl) (by kernel_rfl) ?_
  intro φ4 w4 s
  refine wp_ret ?_
  refine ret_rule (C := []) _ [] (.tuple #[.agg #[.int .u64 n, .pointer none], .int .i64 0]) [.o 0, .o 0] [φ1 0, φ1 0] s trivial (by kernel_rfl) ?_
  exact ⟨_, _, _, rfl, s, rfl⟩

set_option maxHeartbeats 1000000 in
theorem node_c {I : IM} {n : Nat} {l r : E} {bl br : Nat} {pl pr : Option Addr} (hl : ERep I l bl pl) (hr : ERep I r br pr) (hn : n + max l.top r.top < 18446744073709551616) (hdl : l.depth ≤ 1000) (hdr : r.depth ≤ 1000) : Fun Tryd.prog 119 #[.int .u64 ((n : Nat) : Int), evv bl pl, evv br pr] I (fun v J => ∃ b p, v = evv b p ∧ ERep J (E.mk n l r) b p) := by
 have hbl := ERep.base hl
 have hbr := ERep.base hr
 have hb1 := E.base_le l
 have hb2 := E.base_le r
 have hd1 := E.dn_top (min bl br) l
 have hd2 := E.dn_top (min bl br) r
 have he1 := E.dn_depth (min bl br) l
 have he2 := E.dn_depth (min bl br) r
 refine enter_rule 60 [(0, .int .u64 n), (1, .agg #[.int .u64 bl, .pointer pl]), (2, .agg #[.int .u64 br, .pointer pr])] Tryd.func119 rfl (by kernel_rfl) ?_
 intro w s
 refine seqR ?_
 refine oAD [] [] 3 [] 3 (fun φ1 => [(6, pB (φ1 2)), (5, pB (φ1 1)), (4, pB (φ1 0))]) (fun φ1 => [(φ1 0, .cells #[.int .u64 bl, .pointer pl] 44), (φ1 1, .cells #[.int .u64 br, .pointer pr] 44), (φ1 2, .cells #[.int .u64 0, .pointer none] 44)]) (fun φ1 => []) s (fun φ1 => by kernel_rfl) (by kernel_rfl) ?_
 intro φ1 w1 s
 refine wp_seq ?_
 refine seqR ?_
 refine oK _ [] 1 [.o 0, .o 0] 0 (fun φ2 => [(8, .agg #[.int .u64 bl, .pointer pl])]) (fun φ2 => [φ1 0, φ1 0]) s (fun φ2 => by kernel_rfl) ?_
 intro φ2 w2 s
 refine call_rule (some 9) s (isLeaf_c hl) (by kernel_rfl) ?_
 intro v3 I3 w3 le3 h3 s
 replace hl := ERep.mono le3 hl
 replace hr := ERep.mono le3 hr
 obtain rfl := h3
 refine oK _ [] 1 [] 0 (fun φ4 => [(10, .bool (E.isLeaf l))]) (fun φ4 => []) s (fun φ4 => by kernel_rfl) ?_
 intro φ4 w4 s
 rcases Bool.eq_false_or_eq_true (E.isLeaf l) with hc5 | hc5
 ·
  rw [hc5]
  refine oK _ [] 1 [.o 1, .o 1] 0 (fun φ6 => [(11, .agg #[.int .u64 br, .pointer pr])]) (fun φ6 => [φ1 1, φ1 1]) s (fun φ6 => by kernel_rfl) ?_
  intro φ6 w6 s
  refine call_rule (some 12) s (isLeaf_c hr) (by kernel_rfl) ?_
  intro v7 I7 w7 le7 h7 s
  replace hl := ERep.mono le7 hl
  replace hr := ERep.mono le7 hr
  obtain rfl := h7
  refine oK _ [] 2 [] 0 (fun φ8 => [(14, .bool (E.isLeaf r)), (13, .bool (E.isLeaf r))]) (fun φ8 => []) s (fun φ8 => by kernel_rfl) ?_
  intro φ8 w8 s
  rcases Bool.eq_false_or_eq_true (E.isLeaf r) with hc9 | hc9
  ·
   rw [hc9]
   refine oK _ [] 6 [.o 0, .o 1] 0 (fun φ10 => [(20, .bool (((bl : Nat) : Int) == ((br : Nat) : Int))), (19, .bool (((bl : Nat) : Int) == ((br : Nat) : Int))), (18, .int .u64 br), (17, pB (φ1 1)), (16, .int .u64 bl), (15, pB (φ1 0))]) (fun φ10 => [φ1 0, φ1 1]) s (fun φ10 => by kernel_rfl) ?_
   intro φ10 w10 s
   rw [nat_eql (a := bl) (b := br)]
   refine ops_done (by kernel_rfl) ?_
   rcases Bool.eq_false_or_eq_true (decide (bl = br)) with hc11 | hc11
   ·
    rw [hc11]
    refine cond_true_rule (b := true) (by kernel_rfl) rfl ?_
    refine seqR ?_
    refine oA _ [] 6 [.o 0, .o 2, .o 2] 0 (fun φ12 => [(25, .agg #[.int .u64 (IntKind.wrap .u64 (((n : Nat) : Int) + ((bl : Nat) : Int))), .pointer none]), (24, .int .u64 (IntKind.wrap .u64 (((n : Nat) : Int) + ((bl : Nat) : Int)))), (23, .int .u64 bl), (22, pB (φ1 0)), (21, .int .u64 n)]) (fun φ12 => [(φ1 0, .cells #[.int .u64 bl, .pointer pl] 44), (φ1 1, .cells #[.int .u64 br, .pointer pr] 44), (φ1 2, .cells #[.int .u64 (IntKind.wrap .u64 (((n : Nat) : Int) + ((bl : Nat) : Int))), .pointer none] 44)]) (fun φ12 => [φ1 0, φ1 2, φ1 2]) s (fun φ12 => by kernel_rfl) ?_
    intro φ12 w12 s
    rw [nat_addU (a := n) (b := bl) (by omega)] at s ⊢
    refine ops_done (by kernel_rfl) ?_
    refine wp_ret ?_
    refine ret_rule (C := []) _ [] (.agg #[.int .u64 ((n + bl : Nat) : Int), .pointer none]) [.o 2, .o 2] [φ1 2, φ1 2] s trivial (by kernel_rfl) ?_
    exact ⟨_, _, _, rfl, s, ⟨_, none, rfl, by rw [E.mk, if_pos ⟨hc5, hc9, by rw [← hbl, ← hbr]; exact of_decide_eq_true hc11⟩, ← hbl]; exact ⟨rfl, rfl⟩⟩⟩
   ·
    rw [hc11]
    refine cond_false_rule (b := false) (by kernel_rfl) rfl ?_
    refine wp_skip ?_
    refine seqR ?_
    refine oK _ [] 6 [.o 0, .o 1] 0 (fun φ13 => [(7, .int .u64 (if ((br : Nat) : Int) < ((bl : Nat) : Int) then ((br : Nat) : Int) else ((bl : Nat) : Int))), (30, .int .u64 (if ((br : Nat) : Int) < ((bl : Nat) : Int) then ((br : Nat) : Int) else ((bl : Nat) : Int))), (29, .int .u64 br), (28, pB (φ1 1)), (27, .int .u64 bl), (26, pB (φ1 0))]) (fun φ13 => [φ1 0, φ1 1]) s (fun φ13 => by kernel_rfl) ?_
    intro φ13 w13 s
    rw [nat_min (a := bl) (b := br)]
    refine ops_done (by kernel_rfl) ?_
    refine seqR ?_
    refine oA _ [] 6 [.o 0, .o 0] 0 (fun φ14 => [(35, pB (φ1 0)), (34, .int .u64 (IntKind.wrap .u64 (((bl : Nat) : Int) - ((min bl br : Nat) : Int)))), (33, .int .u64 ((min bl br : Nat) : Int)), (32, .int .u64 bl), (31, pB (φ1 0))]) (fun φ14 => [(φ1 0, .cells #[.int .u64 (IntKind.wrap .u64 (((bl : Nat) : Int) - ((min bl br : Nat) : Int))), .pointer pl] 44), (φ1 1, .cells #[.int .u64 br, .pointer pr] 44), (φ1 2, .cells #[.int .u64 0, .pointer none] 44)]) (fun φ14 => [φ1 0, φ1 0]) s (fun φ14 => by kernel_rfl) ?_
    intro φ14 w14 s
    rw [nat_subU (a := bl) (b := (min bl br)) (by omega) (by omega)] at s ⊢
    refine ops_done (by kernel_rfl) ?_
    refine seqR ?_
    refine oA _ [] 6 [.o 1, .o 1] 0 (fun φ15 => [(40, pB (φ1 1)), (39, .int .u64 (IntKind.wrap .u64 (((br : Nat) : Int) - ((min bl br : Nat) : Int)))), (38, .int .u64 ((min bl br : Nat) : Int)), (37, .int .u64 br), (36, pB (φ1 1))]) (fun φ15 => [(φ1 0, .cells #[.int .u64 ((bl - (min bl br) : Nat) : Int), .pointer pl] 44), (φ1 1, .cells #[.int .u64 (IntKind.wrap .u64 (((br : Nat) : Int) - ((min bl br : Nat) : Int))), .pointer pr] 44), (φ1 2, .cells #[.int .u64 0, .pointer none] 44)]) (fun φ15 => [φ1 1, φ1 1]) s (fun φ15 => by kernel_rfl) ?_
    intro φ15 w15 s
    rw [nat_subU (a := br) (b := (min bl br)) (by omega) (by omega)] at s ⊢
    refine ops_done (by kernel_rfl) ?_
    refine wp_seq ?_
    refine draw_rule (C := []) ⟨(fun φ16 xs16 => [.look 0 [] [], .look 0 [] [], .sub 0 [] [] (.int .u64 (IntKind.wrap .u64 (((n : Nat) : Int) + ((min bl br : Nat) : Int)))), .look 0 [.o 0, .o 0] [φ1 0, φ1 0], .look 0 [.o 1, .o 1] [φ1 1, φ1 1], .look 0 [.o 0, .o 0] [φ1 0, φ1 0], .call 117 #[.agg #[.int .u64 ((bl - (min bl br) : Nat) : Int), .pointer pl]], .look 0 [.o 1, .o 1] [φ1 1, φ1 1], .call 117 #[.agg #[.int .u64 ((br - (min bl br) : Nat) : Int), .pointer pr]], .sub 0 [] [] (.int .u64 (if ((E.top (E.dn (min bl br) r) : Nat) : Int) > ((E.top (E.dn (min bl br) l) : Nat) : Int) then ((E.top (E.dn (min bl br) r) : Nat) : Int) else ((E.top (E.dn (min bl br) l) : Nat) : Int))), .look 0 [.o 0, .o 0] [φ1 0, φ1 0], .call 118 #[.agg #[.int .u64 ((bl - (min bl br) : Nat) : Int), .pointer pl]], .look 0 [.o 1, .o 1] [φ1 1, φ1 1], .call 118 #[.agg #[.int .u64 ((br - (min bl br) : Nat) : Int), .pointer pr]], .sub 0 [] [] (.int .i64 (if ((E.depth (E.dn (min bl br) r) : Nat) : Int) > ((E.depth (E.dn (min bl br) l) : Nat) : Int) then ((E.depth (E.dn (min bl br) r) : Nat) : Int) else ((E.depth (E.dn (min bl br) l) : Nat) : Int))), .sub 0 [] [] (.int .i64 (IntKind.wrap .i64 (((1 : Nat) : Int) + ((max (E.depth (E.dn (min bl br) l)) (E.depth (E.dn (min bl br) r)) : Nat) : Int)))), .look 0 [] [], .new, .look 0 [] [], .store 0 [.o 2, .o 2] [φ1 2, φ1 2]]), (fun φ16 xs16 => [.int .u64 n, .int .u64 ((min bl br : Nat) : Int), .int .u64 ((n + (min bl br) : Nat) : Int), .agg #[.int .u64 ((bl - (min bl br) : Nat) : Int), .pointer pl], .agg #[.int .u64 ((br - (min bl br) : Nat) : Int), .pointer pr], .agg #[.int .u64 ((bl - (min bl br) : Nat) : Int), .pointer pl], .int .u64 (E.top (E.dn (min bl br) l)), .agg #[.int .u64 ((br - (min bl br) : Nat) : Int), .pointer pr], .int .u64 (E.top (E.dn (min bl br) r)), .int .u64 ((max (E.top (E.dn (min bl br) l)) (E.top (E.dn (min bl br) r)) : Nat) : Int), .agg #[.int .u64 ((bl - (min bl br) : Nat) : Int), .pointer pl], .int .i64 (E.depth (E.dn (min bl br) l)), .agg #[.int .u64 ((br - (min bl br) : Nat) : Int), .pointer pr], .int .i64 (E.depth (E.dn (min bl br) r)), .int .i64 ((max (E.depth (E.dn (min bl br) l)) (E.depth (E.dn (min bl br) r)) : Nat) : Int), .int .i64 ((1 + (max (E.depth (E.dn (min bl br) l)) (E.depth (E.dn (min bl br) r))) : Nat) : Int), .agg #[.int .u64 ((bl - (min bl br) : Nat) : Int), .pointer pl, .int .u64 ((br - (min bl br) : Nat) : Int), .pointer pr, .int .u64 ((max (E.top (E.dn (min bl br) l)) (E.top (E.dn (min bl br) r)) : Nat) : Int), .int .i64 ((1 + (max (E.depth (E.dn (min bl br) l)) (E.depth (E.dn (min bl br) r))) : Nat) : Int)], pB (φ16 17), .agg #[.int .u64 ((n + (min bl br) : Nat) : Int), pB (φ16 17)], undef]), (fun φ16 xs16 => [[(φ1 0, .cells #[.int .u64 ((bl - (min bl br) : Nat) : Int), .pointer pl] 44), (φ1 1, .cells #[.int .u64 ((br - (min bl br) : Nat) : Int), .pointer pr] 44), (φ1 2, .cells #[.int .u64 0, .pointer none] 44)], [(φ1 0, .cells #[.int .u64 ((bl - (min bl br) : Nat) : Int), .pointer pl] 44), (φ1 1, .cells #[.int .u64 ((br - (min bl br) : Nat) : Int), .pointer pr] 44), (φ1 2, .cells #[.int .u64 ((n + (min bl br) : Nat) : Int), pB (φ16 17)] 44)]]), (fun φ16 xs16 => [[default, default, default, default, default, default, default, default, default, default, default, default, default, default, default, default, default, .cells #[.int .u64 ((bl - (min bl br) : Nat) : Int), .pointer pl, .int .u64 ((br - (min bl br) : Nat) : Int), .pointer pr, .int .u64 ((max (E.top (E.dn (min bl br) l)) (E.top (E.dn (min bl br) r)) : Nat) : Int), .int .i64 ((1 + (max (E.depth (E.dn (min bl br) l)) (E.depth (E.dn (min bl br) r))) : Nat) : Int)] 154, default, default], [default, default, default, default, default, default, default, default, default, default, default, default, default, default, default, default, default, .cells #[.int .u64 ((bl - (min bl br) : Nat) : Int), .pointer pl, .int .u64 ((br - (min bl br) : Nat) : Int), .pointer pr, .int .u64 ((max (E.top (E.dn (min bl br) l)) (E.top (E.dn (min bl br) r)) : Nat) : Int), .int .i64 ((1 + (max (E.depth (E.dn (min bl br) l)) (E.depth (E.dn (min bl br) r))) : Nat) : Int)] 154, default, default]]), [19], [1, 1, 5, 1, 1, 1, 3, 1, 3, 5, 1, 3, 1, 3, 5, 5, 1, 2, 1, 4]⟩ (fun j => ([MP.any] : List MP).getD j MP.any) [6, 8, 11, 13] [2, 9, 14, 15] [] (fun φ16 xs16 => [[none, none, none, none, none, none, none, none, none, none, none, none, none, none, none, none, none, none, none, none]]) (fun φ16 xs16 => [(41, .int .u64 n), (42, .int .u64 ((min bl br : Nat) : Int)), (43, .int .u64 ((n + (min bl br) : Nat) : Int)), (44, .agg #[.int .u64 ((bl - (min bl br) : Nat) : Int), .pointer pl]), (45, .agg #[.int .u64 ((br - (min bl br) : Nat) : Int), .pointer pr]), (46, .agg #[.int .u64 ((bl - (min bl br) : Nat) : Int), .pointer pl]), (47, .int .u64 (E.top (E.dn (min bl br) l))), (48, .agg #[.int .u64 ((br - (min bl br) : Nat) : Int), .pointer pr]), (49, .int .u64 (E.top (E.dn (min bl br) r))), (50, .int .u64 ((max (E.top (E.dn (min bl br) l)) (E.top (E.dn (min bl br) r)) : Nat) : Int)), (51, .agg #[.int .u64 ((bl - (min bl br) : Nat) : Int), .pointer pl]), (52, .int .i64 (E.depth (E.dn (min bl br) l))), (53, .agg #[.int .u64 ((br - (min bl br) : Nat) : Int), .pointer pr]), (54, .int .i64 (E.depth (E.dn (min bl br) r))), (55, .int .i64 ((max (E.depth (E.dn (min bl br) l)) (E.depth (E.dn (min bl br) r)) : Nat) : Int)), (56, .int .i64 ((1 + (max (E.depth (E.dn (min bl br) l)) (E.depth (E.dn (min bl br) r))) : Nat) : Int)), (57, .agg #[.int .u64 ((bl - (min bl br) : Nat) : Int), .pointer pl, .int .u64 ((br - (min bl br) : Nat) : Int), .pointer pr, .int .u64 ((max (E.top (E.dn (min bl br) l)) (E.top (E.dn (min bl br) r)) : Nat) : Int), .int .i64 ((1 + (max (E.depth (E.dn (min bl br) l)) (E.depth (E.dn (min bl br) r))) : Nat) : Int)]), (58, pB (φ16 17)), (59, .agg #[.int .u64 ((n + (min bl br) : Nat) : Int), pB (φ16 17)])]) (fun φ16 xs16 => [(φ1 0, .cells #[.int .u64 ((bl - (min bl br) : Nat) : Int), .pointer pl] 44), (φ1 1, .cells #[.int .u64 ((br - (min bl br) : Nat) : Int), .pointer pr] 44), (φ1 2, .cells #[.int .u64 ((n + (min bl br) : Nat) : Int), pB (φ16 17)] 44), (φ16 17, .cells #[.int .u64 ((bl - (min bl br) : Nat) : Int), .pointer pl, .int .u64 ((br - (min bl br) : Nat) : Int), .pointer pr, .int .u64 ((max (E.top (E.dn (min bl br) l)) (E.top (E.dn (min bl br) r)) : Nat) : Int), .int .i64 ((1 + (max (E.depth (E.dn (min bl br) l)) (E.depth (E.dn (min bl br) r))) : Nat) : Int)] 154)]) s trivial (by kernel_rfl) (by kernel_rfl) (fun _ _ => by kernel_rfl) (fun _ _ => by kernel_rfl) ⟨fun _ _ => by kernel_rfl, fun _ _ => by kernel_rfl, fun _ _ => by kernel_rfl, fun _ _ => by kernel_rfl⟩ (fun _ _ _ => by kernel_rfl) (fun _ _ => by kernel_rfl) (fun _ _ => by kernel_rfl) (fun _ _ => by kernel_rfl) (fun _ _ => by kernel_rfl) (fun _ _ => by kernel_rfl) ⟨kcast (A := ∀ (φ16 : Nat → Nat) (xs16 : Xs), (.int .u64 (IntKind.wrap .u64 (((n : Nat) : Int) + ((min bl br : Nat) : Int))) : Value) = .int .u64 ((n + (min bl br) : Nat) : Int)) (by kernel_rfl) (fun φ16 xs16 => congrArg (Value.int .u64) ((nat_addU (a := n) (b := (min bl br)) (by omega)))), ⟨kcast (A := ∀ (φ16 : Nat → Nat) (xs16 : Xs), (.int .u64 (if ((E.top (E.dn (min bl br) r) : Nat) : Int) > ((E.top (E.dn (min bl br) l) : Nat) : Int) then ((E.top (E.dn (min bl br) r) : Nat) : Int) else ((E.top (E.dn (min bl br) l) : Nat) : Int)) : Value) = .int .u64 ((max (E.top (E.dn (min bl br) l)) (E.top (E.dn (min bl br) r)) : Nat) : Int)) (by kernel_rfl) (fun φ16 xs16 => congrArg (Value.int .u64) ((nat_max (a := (E.top (E.dn (min bl br) l))) (b := (E.top (E.dn (min bl br) r)))))), ⟨kcast (A := ∀ (φ16 : Nat → Nat) (xs16 : Xs), (.int .i64 (if ((E.depth (E.dn (min bl br) r) : Nat) : Int) > ((E.depth (E.dn (min bl br) l) : Nat) : Int) then ((E.depth (E.dn (min bl br) r) : Nat) : Int) else ((E.depth (E.dn (min bl br) l) : Nat) : Int)) : Value) = .int .i64 ((max (E.depth (E.dn (min bl br) l)) (E.depth (E.dn (min bl br) r)) : Nat) : Int)) (by kernel_rfl) (fun φ16 xs16 => congrArg (Value.int .i64) ((nat_max (a := (E.depth (E.dn (min bl br) l))) (b := (E.depth (E.dn (min bl br) r)))))), ⟨kcast (A := ∀ (φ16 : Nat → Nat) (xs16 : Xs), (.int .i64 (IntKind.wrap .i64 (((1 : Nat) : Int) + ((max (E.depth (E.dn (min bl br) l)) (E.depth (E.dn (min bl br) r)) : Nat) : Int))) : Value) = .int .i64 ((1 + (max (E.depth (E.dn (min bl br) l)) (E.depth (E.dn (min bl br) r))) : Nat) : Int)) (by kernel_rfl) (fun φ16 xs16 => congrArg (Value.int .i64) ((nat_addI (a := 1) (b := (max (E.depth (E.dn (min bl br) l)) (E.depth (E.dn (min bl br) r)))) (by omega)))), trivial⟩⟩⟩⟩ trivial (by kernel_rfl) ⟨?c16_6, ?c16_8, ?c16_11, ?c16_13, trivial⟩ ?k16
    case c16_6 =>
     refine kcast (A := ∀ (φ16 : Nat → Nat) (xs16 : Xs) (J6_16 : IM), I7.Le J6_16 → Fun Tryd.prog 117 #[.agg #[.int .u64 ((bl - (min bl br) : Nat) : Int), .pointer pl]] J6_16 (fun v J' => ∃ x : UX, v = .int .u64 (E.top (E.dn (min bl br) l)) ∧ (True))) (by kernel_rfl) ?_
     intro φ16 xs16 J6_16 leJ
     have hl := ERep.mono leJ hl
     exact Fun.mono (max_c (ERep.dn (min bl br) hl) (by omega)) (fun v J' _ h => ⟨UX.d, h, trivial⟩)
    case c16_8 =>
     refine kcast (A := ∀ (φ16 : Nat → Nat) (xs16 : Xs) (J8_16 : IM), I7.Le J8_16 → (True) → Fun Tryd.prog 117 #[.agg #[.int .u64 ((br - (min bl br) : Nat) : Int), .pointer pr]] J8_16 (fun v J' => ∃ x : UX, v = .int .u64 (E.top (E.dn (min bl br) r)) ∧ (True))) (by kernel_rfl) ?_
     intro φ16 xs16 J8_16 leJ
     rintro _
     have hr := ERep.mono leJ hr
     exact Fun.mono (max_c (ERep.dn (min bl br) hr) (by omega)) (fun v J' _ h => ⟨UX.d, h, trivial⟩)
    case c16_11 =>
     refine kcast (A := ∀ (φ16 : Nat → Nat) (xs16 : Xs) (J11_16 : IM), I7.Le J11_16 → (True) → (True) → Fun Tryd.prog 118 #[.agg #[.int .u64 ((bl - (min bl br) : Nat) : Int), .pointer pl]] J11_16 (fun v J' => ∃ x : UX, v = .int .i64 (E.depth (E.dn (min bl br) l)) ∧ (True))) (by kernel_rfl) ?_
     intro φ16 xs16 J11_16 leJ
     rintro _ _
     have hl := ERep.mono leJ hl
     exact Fun.mono (depth_c (ERep.dn (min bl br) hl)) (fun v J' _ h => ⟨UX.d, h, trivial⟩)
    case c16_13 =>
     refine kcast (A := ∀ (φ16 : Nat → Nat) (xs16 : Xs) (J13_16 : IM), I7.Le J13_16 → (True) → (True) → (True) → Fun Tryd.prog 118 #[.agg #[.int .u64 ((br - (min bl br) : Nat) : Int), .pointer pr]] J13_16 (fun v J' => ∃ x : UX, v = .int .i64 (E.depth (E.dn (min bl br) r)) ∧ (True))) (by kernel_rfl) ?_
     intro φ16 xs16 J13_16 leJ
     rintro _ _ _
     have hr := ERep.mono leJ hr
     exact Fun.mono (depth_c (ERep.dn (min bl br) hr)) (fun v J' _ h => ⟨UX.d, h, trivial⟩)
    case k16 =>
     rintro φ16 xs16 I16 w16 le16 s _ _ _ _
     replace hl := ERep.mono le16 hl
     replace hr := ERep.mono le16 hr
     refine wp_ret ?_
     refine ret_rule (C := []) [(φ1 0, .cells #[.int .u64 ((bl - (min bl br) : Nat) : Int), .pointer pl] 44), (φ1 1, .cells #[.int .u64 ((br - (min bl br) : Nat) : Int), .pointer pr] 44), (φ1 2, .cells #[.int .u64 ((n + (min bl br) : Nat) : Int), pB (φ16 17)] 44), (φ16 17, .cells #[.int .u64 ((bl - (min bl br) : Nat) : Int), .pointer pl, .int .u64 ((br - (min bl br) : Nat) : Int), .pointer pr, .int .u64 ((max (E.top (E.dn (min bl br) l)) (E.top (E.dn (min bl br) r)) : Nat) : Int), .int .i64 ((1 + (max (E.depth (E.dn (min bl br) l)) (E.depth (E.dn (min bl br) r))) : Nat) : Int)] 154)] [] (.agg #[.int .u64 ((n + (min bl br) : Nat) : Int), pB (φ16 17)]) [.o 2, .o 2] [φ1 2, φ1 2] s trivial (by kernel_rfl) ?_
     obtain ⟨I17, le17, hk17, s⟩ := s.freezeAt 3 (φ16 17) (.cells #[.int .u64 ((bl - (min bl br) : Nat) : Int), .pointer pl, .int .u64 ((br - (min bl br) : Nat) : Int), .pointer pr, .int .u64 ((max (E.top (E.dn (min bl br) l)) (E.top (E.dn (min bl br) r)) : Nat) : Int), .int .i64 ((1 + (max (E.depth (E.dn (min bl br) l)) (E.depth (E.dn (min bl br) r))) : Nat) : Int)] 154) [((φ1 0), .cells #[.int .u64 ((bl - (min bl br) : Nat) : Int), .pointer pl] 44), ((φ1 1), .cells #[.int .u64 ((br - (min bl br) : Nat) : Int), .pointer pr] 44), ((φ1 2), .cells #[.int .u64 ((n + (min bl br) : Nat) : Int), .pointer (some ⟨(φ16 17), 0, none⟩)] 44)] (by kernel_rfl) (by kernel_rfl)
     replace hl := ERep.mono le17 hl
     replace hr := ERep.mono le17 hr
     exact ⟨_, _, _, rfl, s, ⟨_, _, rfl, by rw [E.mk, if_neg (fun h => of_decide_eq_false hc11 (by rw [hbl, hbr]; exact h.2.2)), ← hbl, ← hbr]; exact ⟨rfl, _, _, _, _, _, rfl, hk17, ERep.dn _ hl, ERep.dn _ hr⟩⟩⟩
  ·
   rw [hc9]
   refine oKD _ [] 6 [] 0 (fun φ18 => [(20, .bool false), (19, undef), (18, undef), (17, undef), (16, undef), (15, undef)]) (fun φ18 => []) s (fun φ18 => by kernel_rfl) (by kernel_rfl) ?_
   intro φ18 w18 s
   refine cond_false_rule (b := false) (by kernel_rfl) rfl ?_
   refine wp_skip ?_
   refine seqR ?_
   refine oK _ [] 6 [.o 0, .o 1] 0 (fun φ19 => [(7, .int .u64 (if ((br : Nat) : Int) < ((bl : Nat) : Int) then ((br : Nat) : Int) else ((bl : Nat) : Int))), (30, .int .u64 (if ((br : Nat) : Int) < ((bl : Nat) : Int) then ((br : Nat) : Int) else ((bl : Nat) : Int))), (29, .int .u64 br), (28, pB (φ1 1)), (27, .int .u64 bl), (26, pB (φ1 0))]) (fun φ19 => [φ1 0, φ1 1]) s (fun φ19 => by kernel_rfl) ?_
   intro φ19 w19 s
   rw [nat_min (a := bl) (b := br)]
   refine ops_done (by kernel_rfl) ?_
   refine seqR ?_
   refine oA _ [] 6 [.o 0, .o 0] 0 (fun φ20 => [(35, pB (φ1 0)), (34, .int .u64 (IntKind.wrap .u64 (((bl : Nat) : Int) - ((min bl br : Nat) : Int)))), (33, .int .u64 ((min bl br : Nat) : Int)), (32, .int .u64 bl), (31, pB (φ1 0))]) (fun φ20 => [(φ1 0, .cells #[.int .u64 (IntKind.wrap .u64 (((bl : Nat) : Int) - ((min bl br : Nat) : Int))), .pointer pl] 44), (φ1 1, .cells #[.int .u64 br, .pointer pr] 44), (φ1 2, .cells #[.int .u64 0, .pointer none] 44)]) (fun φ20 => [φ1 0, φ1 0]) s (fun φ20 => by kernel_rfl) ?_
   intro φ20 w20 s
   rw [nat_subU (a := bl) (b := (min bl br)) (by omega) (by omega)] at s ⊢
   refine ops_done (by kernel_rfl) ?_
   refine seqR ?_
   refine oA _ [] 6 [.o 1, .o 1] 0 (fun φ21 => [(40, pB (φ1 1)), (39, .int .u64 (IntKind.wrap .u64 (((br : Nat) : Int) - ((min bl br : Nat) : Int)))), (38, .int .u64 ((min bl br : Nat) : Int)), (37, .int .u64 br), (36, pB (φ1 1))]) (fun φ21 => [(φ1 0, .cells #[.int .u64 ((bl - (min bl br) : Nat) : Int), .pointer pl] 44), (φ1 1, .cells #[.int .u64 (IntKind.wrap .u64 (((br : Nat) : Int) - ((min bl br : Nat) : Int))), .pointer pr] 44), (φ1 2, .cells #[.int .u64 0, .pointer none] 44)]) (fun φ21 => [φ1 1, φ1 1]) s (fun φ21 => by kernel_rfl) ?_
   intro φ21 w21 s
   rw [nat_subU (a := br) (b := (min bl br)) (by omega) (by omega)] at s ⊢
   refine ops_done (by kernel_rfl) ?_
   refine wp_seq ?_
   refine draw_rule (C := []) ⟨(fun φ22 xs22 => [.look 0 [] [], .look 0 [] [], .sub 0 [] [] (.int .u64 (IntKind.wrap .u64 (((n : Nat) : Int) + ((min bl br : Nat) : Int)))), .look 0 [.o 0, .o 0] [φ1 0, φ1 0], .look 0 [.o 1, .o 1] [φ1 1, φ1 1], .look 0 [.o 0, .o 0] [φ1 0, φ1 0], .call 117 #[.agg #[.int .u64 ((bl - (min bl br) : Nat) : Int), .pointer pl]], .look 0 [.o 1, .o 1] [φ1 1, φ1 1], .call 117 #[.agg #[.int .u64 ((br - (min bl br) : Nat) : Int), .pointer pr]], .sub 0 [] [] (.int .u64 (if ((E.top (E.dn (min bl br) r) : Nat) : Int) > ((E.top (E.dn (min bl br) l) : Nat) : Int) then ((E.top (E.dn (min bl br) r) : Nat) : Int) else ((E.top (E.dn (min bl br) l) : Nat) : Int))), .look 0 [.o 0, .o 0] [φ1 0, φ1 0], .call 118 #[.agg #[.int .u64 ((bl - (min bl br) : Nat) : Int), .pointer pl]], .look 0 [.o 1, .o 1] [φ1 1, φ1 1], .call 118 #[.agg #[.int .u64 ((br - (min bl br) : Nat) : Int), .pointer pr]], .sub 0 [] [] (.int .i64 (if ((E.depth (E.dn (min bl br) r) : Nat) : Int) > ((E.depth (E.dn (min bl br) l) : Nat) : Int) then ((E.depth (E.dn (min bl br) r) : Nat) : Int) else ((E.depth (E.dn (min bl br) l) : Nat) : Int))), .sub 0 [] [] (.int .i64 (IntKind.wrap .i64 (((1 : Nat) : Int) + ((max (E.depth (E.dn (min bl br) l)) (E.depth (E.dn (min bl br) r)) : Nat) : Int)))), .look 0 [] [], .new, .look 0 [] [], .store 0 [.o 2, .o 2] [φ1 2, φ1 2]]), (fun φ22 xs22 => [.int .u64 n, .int .u64 ((min bl br : Nat) : Int), .int .u64 ((n + (min bl br) : Nat) : Int), .agg #[.int .u64 ((bl - (min bl br) : Nat) : Int), .pointer pl], .agg #[.int .u64 ((br - (min bl br) : Nat) : Int), .pointer pr], .agg #[.int .u64 ((bl - (min bl br) : Nat) : Int), .pointer pl], .int .u64 (E.top (E.dn (min bl br) l)), .agg #[.int .u64 ((br - (min bl br) : Nat) : Int), .pointer pr], .int .u64 (E.top (E.dn (min bl br) r)), .int .u64 ((max (E.top (E.dn (min bl br) l)) (E.top (E.dn (min bl br) r)) : Nat) : Int), .agg #[.int .u64 ((bl - (min bl br) : Nat) : Int), .pointer pl], .int .i64 (E.depth (E.dn (min bl br) l)), .agg #[.int .u64 ((br - (min bl br) : Nat) : Int), .pointer pr], .int .i64 (E.depth (E.dn (min bl br) r)), .int .i64 ((max (E.depth (E.dn (min bl br) l)) (E.depth (E.dn (min bl br) r)) : Nat) : Int), .int .i64 ((1 + (max (E.depth (E.dn (min bl br) l)) (E.depth (E.dn (min bl br) r))) : Nat) : Int), .agg #[.int .u64 ((bl - (min bl br) : Nat) : Int), .pointer pl, .int .u64 ((br - (min bl br) : Nat) : Int), .pointer pr, .int .u64 ((max (E.top (E.dn (min bl br) l)) (E.top (E.dn (min bl br) r)) : Nat) : Int), .int .i64 ((1 + (max (E.depth (E.dn (min bl br) l)) (E.depth (E.dn (min bl br) r))) : Nat) : Int)], pB (φ22 17), .agg #[.int .u64 ((n + (min bl br) : Nat) : Int), pB (φ22 17)], undef]), (fun φ22 xs22 => [[(φ1 0, .cells #[.int .u64 ((bl - (min bl br) : Nat) : Int), .pointer pl] 44), (φ1 1, .cells #[.int .u64 ((br - (min bl br) : Nat) : Int), .pointer pr] 44), (φ1 2, .cells #[.int .u64 0, .pointer none] 44)], [(φ1 0, .cells #[.int .u64 ((bl - (min bl br) : Nat) : Int), .pointer pl] 44), (φ1 1, .cells #[.int .u64 ((br - (min bl br) : Nat) : Int), .pointer pr] 44), (φ1 2, .cells #[.int .u64 ((n + (min bl br) : Nat) : Int), pB (φ22 17)] 44)]]), (fun φ22 xs22 => [[default, default, default, default, default, default, default, default, default, default, default, default, default, default, default, default, default, .cells #[.int .u64 ((bl - (min bl br) : Nat) : Int), .pointer pl, .int .u64 ((br - (min bl br) : Nat) : Int), .pointer pr, .int .u64 ((max (E.top (E.dn (min bl br) l)) (E.top (E.dn (min bl br) r)) : Nat) : Int), .int .i64 ((1 + (max (E.depth (E.dn (min bl br) l)) (E.depth (E.dn (min bl br) r))) : Nat) : Int)] 154, default, default], [default, default, default, default, default, default, default, default, default, default, default, default, default, default, default, default, default, .cells #[.int .u64 ((bl - (min bl br) : Nat) : Int), .pointer pl, .int .u64 ((br - (min bl br) : Nat) : Int), .pointer pr, .int .u64 ((max (E.top (E.dn (min bl br) l)) (E.top (E.dn (min bl br) r)) : Nat) : Int), .int .i64 ((1 + (max (E.depth (E.dn (min bl br) l)) (E.depth (E.dn (min bl br) r))) : Nat) : Int)] 154, default, default]]), [19], [1, 1, 5, 1, 1, 1, 3, 1, 3, 5, 1, 3, 1, 3, 5, 5, 1, 2, 1, 4]⟩ (fun j => ([MP.any] : List MP).getD j MP.any) [6, 8, 11, 13] [2, 9, 14, 15] [] (fun φ22 xs22 => [[none, none, none, none, none, none, none, none, none, none, none, none, none, none, none, none, none, none, none, none]]) (fun φ22 xs22 => [(41, .int .u64 n), (42, .int .u64 ((min bl br : Nat) : Int)), (43, .int .u64 ((n + (min bl br) : Nat) : Int)), (44, .agg #[.int .u64 ((bl - (min bl br) : Nat) : Int), .pointer pl]), (45, .agg #[.int .u64 ((br - (min bl br) : Nat) : Int), .pointer pr]), (46, .agg #[.int .u64 ((bl - (min bl br) : Nat) : Int), .pointer pl]), (47, .int .u64 (E.top (E.dn (min bl br) l))), (48, .agg #[.int .u64 ((br - (min bl br) : Nat) : Int), .pointer pr]), (49, .int .u64 (E.top (E.dn (min bl br) r))), (50, .int .u64 ((max (E.top (E.dn (min bl br) l)) (E.top (E.dn (min bl br) r)) : Nat) : Int)), (51, .agg #[.int .u64 ((bl - (min bl br) : Nat) : Int), .pointer pl]), (52, .int .i64 (E.depth (E.dn (min bl br) l))), (53, .agg #[.int .u64 ((br - (min bl br) : Nat) : Int), .pointer pr]), (54, .int .i64 (E.depth (E.dn (min bl br) r))), (55, .int .i64 ((max (E.depth (E.dn (min bl br) l)) (E.depth (E.dn (min bl br) r)) : Nat) : Int)), (56, .int .i64 ((1 + (max (E.depth (E.dn (min bl br) l)) (E.depth (E.dn (min bl br) r))) : Nat) : Int)), (57, .agg #[.int .u64 ((bl - (min bl br) : Nat) : Int), .pointer pl, .int .u64 ((br - (min bl br) : Nat) : Int), .pointer pr, .int .u64 ((max (E.top (E.dn (min bl br) l)) (E.top (E.dn (min bl br) r)) : Nat) : Int), .int .i64 ((1 + (max (E.depth (E.dn (min bl br) l)) (E.depth (E.dn (min bl br) r))) : Nat) : Int)]), (58, pB (φ22 17)), (59, .agg #[.int .u64 ((n + (min bl br) : Nat) : Int), pB (φ22 17)])]) (fun φ22 xs22 => [(φ1 0, .cells #[.int .u64 ((bl - (min bl br) : Nat) : Int), .pointer pl] 44), (φ1 1, .cells #[.int .u64 ((br - (min bl br) : Nat) : Int), .pointer pr] 44), (φ1 2, .cells #[.int .u64 ((n + (min bl br) : Nat) : Int), pB (φ22 17)] 44), (φ22 17, .cells #[.int .u64 ((bl - (min bl br) : Nat) : Int), .pointer pl, .int .u64 ((br - (min bl br) : Nat) : Int), .pointer pr, .int .u64 ((max (E.top (E.dn (min bl br) l)) (E.top (E.dn (min bl br) r)) : Nat) : Int), .int .i64 ((1 + (max (E.depth (E.dn (min bl br) l)) (E.depth (E.dn (min bl br) r))) : Nat) : Int)] 154)]) s trivial (by kernel_rfl) (by kernel_rfl) (fun _ _ => by kernel_rfl) (fun _ _ => by kernel_rfl) ⟨fun _ _ => by kernel_rfl, fun _ _ => by kernel_rfl, fun _ _ => by kernel_rfl, fun _ _ => by kernel_rfl⟩ (fun _ _ _ => by kernel_rfl) (fun _ _ => by kernel_rfl) (fun _ _ => by kernel_rfl) (fun _ _ => by kernel_rfl) (fun _ _ => by kernel_rfl) (fun _ _ => by kernel_rfl) ⟨kcast (A := ∀ (φ22 : Nat → Nat) (xs22 : Xs), (.int .u64 (IntKind.wrap .u64 (((n : Nat) : Int) + ((min bl br : Nat) : Int))) : Value) = .int .u64 ((n + (min bl br) : Nat) : Int)) (by kernel_rfl) (fun φ22 xs22 => congrArg (Value.int .u64) ((nat_addU (a := n) (b := (min bl br)) (by omega)))), ⟨kcast (A := ∀ (φ22 : Nat → Nat) (xs22 : Xs), (.int .u64 (if ((E.top (E.dn (min bl br) r) : Nat) : Int) > ((E.top (E.dn (min bl br) l) : Nat) : Int) then ((E.top (E.dn (min bl br) r) : Nat) : Int) else ((E.top (E.dn (min bl br) l) : Nat) : Int)) : Value) = .int .u64 ((max (E.top (E.dn (min bl br) l)) (E.top (E.dn (min bl br) r)) : Nat) : Int)) (by kernel_rfl) (fun φ22 xs22 => congrArg (Value.int .u64) ((nat_max (a := (E.top (E.dn (min bl br) l))) (b := (E.top (E.dn (min bl br) r)))))), ⟨kcast (A := ∀ (φ22 : Nat → Nat) (xs22 : Xs), (.int .i64 (if ((E.depth (E.dn (min bl br) r) : Nat) : Int) > ((E.depth (E.dn (min bl br) l) : Nat) : Int) then ((E.depth (E.dn (min bl br) r) : Nat) : Int) else ((E.depth (E.dn (min bl br) l) : Nat) : Int)) : Value) = .int .i64 ((max (E.depth (E.dn (min bl br) l)) (E.depth (E.dn (min bl br) r)) : Nat) : Int)) (by kernel_rfl) (fun φ22 xs22 => congrArg (Value.int .i64) ((nat_max (a := (E.depth (E.dn (min bl br) l))) (b := (E.depth (E.dn (min bl br) r)))))), ⟨kcast (A := ∀ (φ22 : Nat → Nat) (xs22 : Xs), (.int .i64 (IntKind.wrap .i64 (((1 : Nat) : Int) + ((max (E.depth (E.dn (min bl br) l)) (E.depth (E.dn (min bl br) r)) : Nat) : Int))) : Value) = .int .i64 ((1 + (max (E.depth (E.dn (min bl br) l)) (E.depth (E.dn (min bl br) r))) : Nat) : Int)) (by kernel_rfl) (fun φ22 xs22 => congrArg (Value.int .i64) ((nat_addI (a := 1) (b := (max (E.depth (E.dn (min bl br) l)) (E.depth (E.dn (min bl br) r)))) (by omega)))), trivial⟩⟩⟩⟩ trivial (by kernel_rfl) ⟨?c22_6, ?c22_8, ?c22_11, ?c22_13, trivial⟩ ?k22
   case c22_6 =>
    refine kcast (A := ∀ (φ22 : Nat → Nat) (xs22 : Xs) (J6_22 : IM), I7.Le J6_22 → Fun Tryd.prog 117 #[.agg #[.int .u64 ((bl - (min bl br) : Nat) : Int), .pointer pl]] J6_22 (fun v J' => ∃ x : UX, v = .int .u64 (E.top (E.dn (min bl br) l)) ∧ (True))) (by kernel_rfl) ?_
    intro φ22 xs22 J6_22 leJ
    have hl := ERep.mono leJ hl
    exact Fun.mono (max_c (ERep.dn (min bl br) hl) (by omega)) (fun v J' _ h => ⟨UX.d, h, trivial⟩)
   case c22_8 =>
    refine kcast (A := ∀ (φ22 : Nat → Nat) (xs22 : Xs) (J8_22 : IM), I7.Le J8_22 → (True) → Fun Tryd.prog 117 #[.agg #[.int .u64 ((br - (min bl br) : Nat) : Int), .pointer pr]] J8_22 (fun v J' => ∃ x : UX, v = .int .u64 (E.top (E.dn (min bl br) r)) ∧ (True))) (by kernel_rfl) ?_
    intro φ22 xs22 J8_22 leJ
    rintro _
    have hr := ERep.mono leJ hr
    exact Fun.mono (max_c (ERep.dn (min bl br) hr) (by omega)) (fun v J' _ h => ⟨UX.d, h, trivial⟩)
   case c22_11 =>
    refine kcast (A := ∀ (φ22 : Nat → Nat) (xs22 : Xs) (J11_22 : IM), I7.Le J11_22 → (True) → (True) → Fun Tryd.prog 118 #[.agg #[.int .u64 ((bl - (min bl br) : Nat) : Int), .pointer pl]] J11_22 (fun v J' => ∃ x : UX, v = .int .i64 (E.depth (E.dn (min bl br) l)) ∧ (True))) (by kernel_rfl) ?_
    intro φ22 xs22 J11_22 leJ
    rintro _ _
    have hl := ERep.mono leJ hl
    exact Fun.mono (depth_c (ERep.dn (min bl br) hl)) (fun v J' _ h => ⟨UX.d, h, trivial⟩)
   case c22_13 =>
    refine kcast (A := ∀ (φ22 : Nat → Nat) (xs22 : Xs) (J13_22 : IM), I7.Le J13_22 → (True) → (True) → (True) → Fun Tryd.prog 118 #[.agg #[.int .u64 ((br - (min bl br) : Nat) : Int), .pointer pr]] J13_22 (fun v J' => ∃ x : UX, v = .int .i64 (E.depth (E.dn (min bl br) r)) ∧ (True))) (by kernel_rfl) ?_
    intro φ22 xs22 J13_22 leJ
    rintro _ _ _
    have hr := ERep.mono leJ hr
    exact Fun.mono (depth_c (ERep.dn (min bl br) hr)) (fun v J' _ h => ⟨UX.d, h, trivial⟩)
   case k22 =>
    rintro φ22 xs22 I22 w22 le22 s _ _ _ _
    replace hl := ERep.mono le22 hl
    replace hr := ERep.mono le22 hr
    refine wp_ret ?_
    refine ret_rule (C := []) [(φ1 0, .cells #[.int .u64 ((bl - (min bl br) : Nat) : Int), .pointer pl] 44), (φ1 1, .cells #[.int .u64 ((br - (min bl br) : Nat) : Int), .pointer pr] 44), (φ1 2, .cells #[.int .u64 ((n + (min bl br) : Nat) : Int), pB (φ22 17)] 44), (φ22 17, .cells #[.int .u64 ((bl - (min bl br) : Nat) : Int), .pointer pl, .int .u64 ((br - (min bl br) : Nat) : Int), .pointer pr, .int .u64 ((max (E.top (E.dn (min bl br) l)) (E.top (E.dn (min bl br) r)) : Nat) : Int), .int .i64 ((1 + (max (E.depth (E.dn (min bl br) l)) (E.depth (E.dn (min bl br) r))) : Nat) : Int)] 154)] [] (.agg #[.int .u64 ((n + (min bl br) : Nat) : Int), pB (φ22 17)]) [.o 2, .o 2] [φ1 2, φ1 2] s trivial (by kernel_rfl) ?_
    obtain ⟨I23, le23, hk23, s⟩ := s.freezeAt 3 (φ22 17) (.cells #[.int .u64 ((bl - (min bl br) : Nat) : Int), .pointer pl, .int .u64 ((br - (min bl br) : Nat) : Int), .pointer pr, .int .u64 ((max (E.top (E.dn (min bl br) l)) (E.top (E.dn (min bl br) r)) : Nat) : Int), .int .i64 ((1 + (max (E.depth (E.dn (min bl br) l)) (E.depth (E.dn (min bl br) r))) : Nat) : Int)] 154) [((φ1 0), .cells #[.int .u64 ((bl - (min bl br) : Nat) : Int), .pointer pl] 44), ((φ1 1), .cells #[.int .u64 ((br - (min bl br) : Nat) : Int), .pointer pr] 44), ((φ1 2), .cells #[.int .u64 ((n + (min bl br) : Nat) : Int), .pointer (some ⟨(φ22 17), 0, none⟩)] 44)] (by kernel_rfl) (by kernel_rfl)
    replace hl := ERep.mono le23 hl
    replace hr := ERep.mono le23 hr
    exact ⟨_, _, _, rfl, s, ⟨_, _, rfl, by rw [E.mk, if_neg (fun h => by rw [hc9] at h; cases h.2.1), ← hbl, ← hbr]; exact ⟨rfl, _, _, _, _, _, rfl, hk23, ERep.dn _ hl, ERep.dn _ hr⟩⟩⟩
 ·
  rw [hc5]
  refine oKD _ [] 10 [] 0 (fun φ24 => [(20, .bool false), (19, undef), (18, undef), (17, undef), (16, undef), (15, undef), (14, .bool false), (13, .bool false), (12, undef), (11, undef)]) (fun φ24 => []) s (fun φ24 => by kernel_rfl) (by kernel_rfl) ?_
  intro φ24 w24 s
  refine cond_false_rule (b := false) (by kernel_rfl) rfl ?_
  refine wp_skip ?_
  refine seqR ?_
  refine oK _ [] 6 [.o 0, .o 1] 0 (fun φ25 => [(7, .int .u64 (if ((br : Nat) : Int) < ((bl : Nat) : Int) then ((br : Nat) : Int) else ((bl : Nat) : Int))), (30, .int .u64 (if ((br : Nat) : Int) < ((bl : Nat) : Int) then ((br : Nat) : Int) else ((bl : Nat) : Int))), (29, .int .u64 br), (28, pB (φ1 1)), (27, .int .u64 bl), (26, pB (φ1 0))]) (fun φ25 => [φ1 0, φ1 1]) s (fun φ25 => by kernel_rfl) ?_
  intro φ25 w25 s
  rw [nat_min (a := bl) (b := br)]
  refine ops_done (by kernel_rfl) ?_
  refine seqR ?_
  refine oA _ [] 6 [.o 0, .o 0] 0 (fun φ26 => [(35, pB (φ1 0)), (34, .int .u64 (IntKind.wrap .u64 (((bl : Nat) : Int) - ((min bl br : Nat) : Int)))), (33, .int .u64 ((min bl br : Nat) : Int)), (32, .int .u64 bl), (31, pB (φ1 0))]) (fun φ26 => [(φ1 0, .cells #[.int .u64 (IntKind.wrap .u64 (((bl : Nat) : Int) - ((min bl br : Nat) : Int))), .pointer pl] 44), (φ1 1, .cells #[.int .u64 br, .pointer pr] 44), (φ1 2, .cells #[.int .u64 0, .pointer none] 44)]) (fun φ26 => [φ1 0, φ1 0]) s (fun φ26 => by kernel_rfl) ?_
  intro φ26 w26 s
  rw [nat_subU (a := bl) (b := (min bl br)) (by omega) (by omega)] at s ⊢
  refine ops_done (by kernel_rfl) ?_
  refine seqR ?_
  refine oA _ [] 6 [.o 1, .o 1] 0 (fun φ27 => [(40, pB (φ1 1)), (39, .int .u64 (IntKind.wrap .u64 (((br : Nat) : Int) - ((min bl br : Nat) : Int)))), (38, .int .u64 ((min bl br : Nat) : Int)), (37, .int .u64 br), (36, pB (φ1 1))]) (fun φ27 => [(φ1 0, .cells #[.int .u64 ((bl - (min bl br) : Nat) : Int), .pointer pl] 44), (φ1 1, .cells #[.int .u64 (IntKind.wrap .u64 (((br : Nat) : Int) - ((min bl br : Nat) : Int))), .pointer pr] 44), (φ1 2, .cells #[.int .u64 0, .pointer none] 44)]) (fun φ27 => [φ1 1, φ1 1]) s (fun φ27 => by kernel_rfl) ?_
  intro φ27 w27 s
  rw [nat_subU (a := br) (b := (min bl br)) (by omega) (by omega)] at s ⊢
  refine ops_done (by kernel_rfl) ?_
  refine wp_seq ?_
  refine draw_rule (C := []) ⟨(fun φ28 xs28 => [.look 0 [] [], .look 0 [] [], .sub 0 [] [] (.int .u64 (IntKind.wrap .u64 (((n : Nat) : Int) + ((min bl br : Nat) : Int)))), .look 0 [.o 0, .o 0] [φ1 0, φ1 0], .look 0 [.o 1, .o 1] [φ1 1, φ1 1], .look 0 [.o 0, .o 0] [φ1 0, φ1 0], .call 117 #[.agg #[.int .u64 ((bl - (min bl br) : Nat) : Int), .pointer pl]], .look 0 [.o 1, .o 1] [φ1 1, φ1 1], .call 117 #[.agg #[.int .u64 ((br - (min bl br) : Nat) : Int), .pointer pr]], .sub 0 [] [] (.int .u64 (if ((E.top (E.dn (min bl br) r) : Nat) : Int) > ((E.top (E.dn (min bl br) l) : Nat) : Int) then ((E.top (E.dn (min bl br) r) : Nat) : Int) else ((E.top (E.dn (min bl br) l) : Nat) : Int))), .look 0 [.o 0, .o 0] [φ1 0, φ1 0], .call 118 #[.agg #[.int .u64 ((bl - (min bl br) : Nat) : Int), .pointer pl]], .look 0 [.o 1, .o 1] [φ1 1, φ1 1], .call 118 #[.agg #[.int .u64 ((br - (min bl br) : Nat) : Int), .pointer pr]], .sub 0 [] [] (.int .i64 (if ((E.depth (E.dn (min bl br) r) : Nat) : Int) > ((E.depth (E.dn (min bl br) l) : Nat) : Int) then ((E.depth (E.dn (min bl br) r) : Nat) : Int) else ((E.depth (E.dn (min bl br) l) : Nat) : Int))), .sub 0 [] [] (.int .i64 (IntKind.wrap .i64 (((1 : Nat) : Int) + ((max (E.depth (E.dn (min bl br) l)) (E.depth (E.dn (min bl br) r)) : Nat) : Int)))), .look 0 [] [], .new, .look 0 [] [], .store 0 [.o 2, .o 2] [φ1 2, φ1 2]]), (fun φ28 xs28 => [.int .u64 n, .int .u64 ((min bl br : Nat) : Int), .int .u64 ((n + (min bl br) : Nat) : Int), .agg #[.int .u64 ((bl - (min bl br) : Nat) : Int), .pointer pl], .agg #[.int .u64 ((br - (min bl br) : Nat) : Int), .pointer pr], .agg #[.int .u64 ((bl - (min bl br) : Nat) : Int), .pointer pl], .int .u64 (E.top (E.dn (min bl br) l)), .agg #[.int .u64 ((br - (min bl br) : Nat) : Int), .pointer pr], .int .u64 (E.top (E.dn (min bl br) r)), .int .u64 ((max (E.top (E.dn (min bl br) l)) (E.top (E.dn (min bl br) r)) : Nat) : Int), .agg #[.int .u64 ((bl - (min bl br) : Nat) : Int), .pointer pl], .int .i64 (E.depth (E.dn (min bl br) l)), .agg #[.int .u64 ((br - (min bl br) : Nat) : Int), .pointer pr], .int .i64 (E.depth (E.dn (min bl br) r)), .int .i64 ((max (E.depth (E.dn (min bl br) l)) (E.depth (E.dn (min bl br) r)) : Nat) : Int), .int .i64 ((1 + (max (E.depth (E.dn (min bl br) l)) (E.depth (E.dn (min bl br) r))) : Nat) : Int), .agg #[.int .u64 ((bl - (min bl br) : Nat) : Int), .pointer pl, .int .u64 ((br - (min bl br) : Nat) : Int), .pointer pr, .int .u64 ((max (E.top (E.dn (min bl br) l)) (E.top (E.dn (min bl br) r)) : Nat) : Int), .int .i64 ((1 + (max (E.depth (E.dn (min bl br) l)) (E.depth (E.dn (min bl br) r))) : Nat) : Int)], pB (φ28 17), .agg #[.int .u64 ((n + (min bl br) : Nat) : Int), pB (φ28 17)], undef]), (fun φ28 xs28 => [[(φ1 0, .cells #[.int .u64 ((bl - (min bl br) : Nat) : Int), .pointer pl] 44), (φ1 1, .cells #[.int .u64 ((br - (min bl br) : Nat) : Int), .pointer pr] 44), (φ1 2, .cells #[.int .u64 0, .pointer none] 44)], [(φ1 0, .cells #[.int .u64 ((bl - (min bl br) : Nat) : Int), .pointer pl] 44), (φ1 1, .cells #[.int .u64 ((br - (min bl br) : Nat) : Int), .pointer pr] 44), (φ1 2, .cells #[.int .u64 ((n + (min bl br) : Nat) : Int), pB (φ28 17)] 44)]]), (fun φ28 xs28 => [[default, default, default, default, default, default, default, default, default, default, default, default, default, default, default, default, default, .cells #[.int .u64 ((bl - (min bl br) : Nat) : Int), .pointer pl, .int .u64 ((br - (min bl br) : Nat) : Int), .pointer pr, .int .u64 ((max (E.top (E.dn (min bl br) l)) (E.top (E.dn (min bl br) r)) : Nat) : Int), .int .i64 ((1 + (max (E.depth (E.dn (min bl br) l)) (E.depth (E.dn (min bl br) r))) : Nat) : Int)] 154, default, default], [default, default, default, default, default, default, default, default, default, default, default, default, default, default, default, default, default, .cells #[.int .u64 ((bl - (min bl br) : Nat) : Int), .pointer pl, .int .u64 ((br - (min bl br) : Nat) : Int), .pointer pr, .int .u64 ((max (E.top (E.dn (min bl br) l)) (E.top (E.dn (min bl br) r)) : Nat) : Int), .int .i64 ((1 + (max (E.depth (E.dn (min bl br) l)) (E.depth (E.dn (min bl br) r))) : Nat) : Int)] 154, default, default]]), [19], [1, 1, 5, 1, 1, 1, 3, 1, 3, 5, 1, 3, 1, 3, 5, 5, 1, 2, 1, 4]⟩ (fun j => ([MP.any] : List MP).getD j MP.any) [6, 8, 11, 13] [2, 9, 14, 15] [] (fun φ28 xs28 => [[none, none, none, none, none, none, none, none, none, none, none, none, none, none, none, none, none, none, none, none]]) (fun φ28 xs28 => [(41, .int .u64 n), (42, .int .u64 ((min bl br : Nat) : Int)), (43, .int .u64 ((n + (min bl br) : Nat) : Int)), (44, .agg #[.int .u64 ((bl - (min bl br) : Nat) : Int), .pointer pl]), (45, .agg #[.int .u64 ((br - (min bl br) : Nat) : Int), .pointer pr]), (46, .agg #[.int .u64 ((bl - (min bl br) : Nat) : Int), .pointer pl]), (47, .int .u64 (E.top (E.dn (min bl br) l))), (48, .agg #[.int .u64 ((br - (min bl br) : Nat) : Int), .pointer pr]), (49, .int .u64 (E.top (E.dn (min bl br) r))), (50, .int .u64 ((max (E.top (E.dn (min bl br) l)) (E.top (E.dn (min bl br) r)) : Nat) : Int)), (51, .agg #[.int .u64 ((bl - (min bl br) : Nat) : Int), .pointer pl]), (52, .int .i64 (E.depth (E.dn (min bl br) l))), (53, .agg #[.int .u64 ((br - (min bl br) : Nat) : Int), .pointer pr]), (54, .int .i64 (E.depth (E.dn (min bl br) r))), (55, .int .i64 ((max (E.depth (E.dn (min bl br) l)) (E.depth (E.dn (min bl br) r)) : Nat) : Int)), (56, .int .i64 ((1 + (max (E.depth (E.dn (min bl br) l)) (E.depth (E.dn (min bl br) r))) : Nat) : Int)), (57, .agg #[.int .u64 ((bl - (min bl br) : Nat) : Int), .pointer pl, .int .u64 ((br - (min bl br) : Nat) : Int), .pointer pr, .int .u64 ((max (E.top (E.dn (min bl br) l)) (E.top (E.dn (min bl br) r)) : Nat) : Int), .int .i64 ((1 + (max (E.depth (E.dn (min bl br) l)) (E.depth (E.dn (min bl br) r))) : Nat) : Int)]), (58, pB (φ28 17)), (59, .agg #[.int .u64 ((n + (min bl br) : Nat) : Int), pB (φ28 17)])]) (fun φ28 xs28 => [(φ1 0, .cells #[.int .u64 ((bl - (min bl br) : Nat) : Int), .pointer pl] 44), (φ1 1, .cells #[.int .u64 ((br - (min bl br) : Nat) : Int), .pointer pr] 44), (φ1 2, .cells #[.int .u64 ((n + (min bl br) : Nat) : Int), pB (φ28 17)] 44), (φ28 17, .cells #[.int .u64 ((bl - (min bl br) : Nat) : Int), .pointer pl, .int .u64 ((br - (min bl br) : Nat) : Int), .pointer pr, .int .u64 ((max (E.top (E.dn (min bl br) l)) (E.top (E.dn (min bl br) r)) : Nat) : Int), .int .i64 ((1 + (max (E.depth (E.dn (min bl br) l)) (E.depth (E.dn (min bl br) r))) : Nat) : Int)] 154)]) s trivial (by kernel_rfl) (by kernel_rfl) (fun _ _ => by kernel_rfl) (fun _ _ => by kernel_rfl) ⟨fun _ _ => by kernel_rfl, fun _ _ => by kernel_rfl, fun _ _ => by kernel_rfl, fun _ _ => by kernel_rfl⟩ (fun _ _ _ => by kernel_rfl) (fun _ _ => by kernel_rfl) (fun _ _ => by kernel_rfl) (fun _ _ => by kernel_rfl) (fun _ _ => by kernel_rfl) (fun _ _ => by kernel_rfl) ⟨kcast (A := ∀ (φ28 : Nat → Nat) (xs28 : Xs), (.int .u64 (IntKind.wrap .u64 (((n : Nat) : Int) + ((min bl br : Nat) : Int))) : Value) = .int .u64 ((n + (min bl br) : Nat) : Int)) (by kernel_rfl) (fun φ28 xs28 => congrArg (Value.int .u64) ((nat_addU (a := n) (b := (min bl br)) (by omega)))), ⟨kcast (A := ∀ (φ28 : Nat → Nat) (xs28 : Xs), (.int .u64 (if ((E.top (E.dn (min bl br) r) : Nat) : Int) > ((E.top (E.dn (min bl br) l) : Nat) : Int) then ((E.top (E.dn (min bl br) r) : Nat) : Int) else ((E.top (E.dn (min bl br) l) : Nat) : Int)) : Value) = .int .u64 ((max (E.top (E.dn (min bl br) l)) (E.top (E.dn (min bl br) r)) : Nat) : Int)) (by kernel_rfl) (fun φ28 xs28 => congrArg (Value.int .u64) ((nat_max (a := (E.top (E.dn (min bl br) l))) (b := (E.top (E.dn (min bl br) r)))))), ⟨kcast (A := ∀ (φ28 : Nat → Nat) (xs28 : Xs), (.int .i64 (if ((E.depth (E.dn (min bl br) r) : Nat) : Int) > ((E.depth (E.dn (min bl br) l) : Nat) : Int) then ((E.depth (E.dn (min bl br) r) : Nat) : Int) else ((E.depth (E.dn (min bl br) l) : Nat) : Int)) : Value) = .int .i64 ((max (E.depth (E.dn (min bl br) l)) (E.depth (E.dn (min bl br) r)) : Nat) : Int)) (by kernel_rfl) (fun φ28 xs28 => congrArg (Value.int .i64) ((nat_max (a := (E.depth (E.dn (min bl br) l))) (b := (E.depth (E.dn (min bl br) r)))))), ⟨kcast (A := ∀ (φ28 : Nat → Nat) (xs28 : Xs), (.int .i64 (IntKind.wrap .i64 (((1 : Nat) : Int) + ((max (E.depth (E.dn (min bl br) l)) (E.depth (E.dn (min bl br) r)) : Nat) : Int))) : Value) = .int .i64 ((1 + (max (E.depth (E.dn (min bl br) l)) (E.depth (E.dn (min bl br) r))) : Nat) : Int)) (by kernel_rfl) (fun φ28 xs28 => congrArg (Value.int .i64) ((nat_addI (a := 1) (b := (max (E.depth (E.dn (min bl br) l)) (E.depth (E.dn (min bl br) r)))) (by omega)))), trivial⟩⟩⟩⟩ trivial (by kernel_rfl) ⟨?c28_6, ?c28_8, ?c28_11, ?c28_13, trivial⟩ ?k28
  case c28_6 =>
   refine kcast (A := ∀ (φ28 : Nat → Nat) (xs28 : Xs) (J6_28 : IM), I3.Le J6_28 → Fun Tryd.prog 117 #[.agg #[.int .u64 ((bl - (min bl br) : Nat) : Int), .pointer pl]] J6_28 (fun v J' => ∃ x : UX, v = .int .u64 (E.top (E.dn (min bl br) l)) ∧ (True))) (by kernel_rfl) ?_
   intro φ28 xs28 J6_28 leJ
   have hl := ERep.mono leJ hl
   exact Fun.mono (max_c (ERep.dn (min bl br) hl) (by omega)) (fun v J' _ h => ⟨UX.d, h, trivial⟩)
  case c28_8 =>
   refine kcast (A := ∀ (φ28 : Nat → Nat) (xs28 : Xs) (J8_28 : IM), I3.Le J8_28 → (True) → Fun Tryd.prog 117 #[.agg #[.int .u64 ((br - (min bl br) : Nat) : Int), .pointer pr]] J8_28 (fun v J' => ∃ x : UX, v = .int .u64 (E.top (E.dn (min bl br) r)) ∧ (True))) (by kernel_rfl) ?_
   intro φ28 xs28 J8_28 leJ
   rintro _
   have hr := ERep.mono leJ hr
   exact Fun.mono (max_c (ERep.dn (min bl br) hr) (by omega)) (fun v J' _ h => ⟨UX.d, h, trivial⟩)
  case c28_11 =>
   refine kcast (A := ∀ (φ28 : Nat → Nat) (xs28 : Xs) (J11_28 : IM), I3.Le J11_28 → (True) → (True) → Fun Tryd.prog 118 #[.agg #[.int .u64 ((bl - (min bl br) : Nat) : Int), .pointer pl]] J11_28 (fun v J' => ∃ x : UX, v = .int .i64 (E.depth (E.dn (min bl br) l)) ∧ (True))) (by kernel_rfl) ?_
   intro φ28 xs28 J11_28 leJ
   rintro _ _
   have hl := ERep.mono leJ hl
   exact Fun.mono (depth_c (ERep.dn (min bl br) hl)) (fun v J' _ h => ⟨UX.d, h, trivial⟩)
  case c28_13 =>
   refine kcast (A := ∀ (φ28 : Nat → Nat) (xs28 : Xs) (J13_28 : IM), I3.Le J13_28 → (True) → (True) → (True) → Fun Tryd.prog 118 #[.agg #[.int .u64 ((br - (min bl br) : Nat) : Int), .pointer pr]] J13_28 (fun v J' => ∃ x : UX, v = .int .i64 (E.depth (E.dn (min bl br) r)) ∧ (True))) (by kernel_rfl) ?_
   intro φ28 xs28 J13_28 leJ
   rintro _ _ _
   have hr := ERep.mono leJ hr
   exact Fun.mono (depth_c (ERep.dn (min bl br) hr)) (fun v J' _ h => ⟨UX.d, h, trivial⟩)
  case k28 =>
   rintro φ28 xs28 I28 w28 le28 s _ _ _ _
   replace hl := ERep.mono le28 hl
   replace hr := ERep.mono le28 hr
   refine wp_ret ?_
   refine ret_rule (C := []) [(φ1 0, .cells #[.int .u64 ((bl - (min bl br) : Nat) : Int), .pointer pl] 44), (φ1 1, .cells #[.int .u64 ((br - (min bl br) : Nat) : Int), .pointer pr] 44), (φ1 2, .cells #[.int .u64 ((n + (min bl br) : Nat) : Int), pB (φ28 17)] 44), (φ28 17, .cells #[.int .u64 ((bl - (min bl br) : Nat) : Int), .pointer pl, .int .u64 ((br - (min bl br) : Nat) : Int), .pointer pr, .int .u64 ((max (E.top (E.dn (min bl br) l)) (E.top (E.dn (min bl br) r)) : Nat) : Int), .int .i64 ((1 + (max (E.depth (E.dn (min bl br) l)) (E.depth (E.dn (min bl br) r))) : Nat) : Int)] 154)] [] (.agg #[.int .u64 ((n + (min bl br) : Nat) : Int), pB (φ28 17)]) [.o 2, .o 2] [φ1 2, φ1 2] s trivial (by kernel_rfl) ?_
   obtain ⟨I29, le29, hk29, s⟩ := s.freezeAt 3 (φ28 17) (.cells #[.int .u64 ((bl - (min bl br) : Nat) : Int), .pointer pl, .int .u64 ((br - (min bl br) : Nat) : Int), .pointer pr, .int .u64 ((max (E.top (E.dn (min bl br) l)) (E.top (E.dn (min bl br) r)) : Nat) : Int), .int .i64 ((1 + (max (E.depth (E.dn (min bl br) l)) (E.depth (E.dn (min bl br) r))) : Nat) : Int)] 154) [((φ1 0), .cells #[.int .u64 ((bl - (min bl br) : Nat) : Int), .pointer pl] 44), ((φ1 1), .cells #[.int .u64 ((br - (min bl br) : Nat) : Int), .pointer pr] 44), ((φ1 2), .cells #[.int .u64 ((n + (min bl br) : Nat) : Int), .pointer (some ⟨(φ28 17), 0, none⟩)] 44)] (by kernel_rfl) (by kernel_rfl)
   replace hl := ERep.mono le29 hl
   replace hr := ERep.mono le29 hr
   exact ⟨_, _, _, rfl, s, ⟨_, _, rfl, by rw [E.mk, if_neg (fun h => by rw [hc5] at h; cases h.1), ← hbl, ← hbr]; exact ⟨rfl, _, _, _, _, _, rfl, hk29, ERep.dn _ hl, ERep.dn _ hr⟩⟩⟩

end Go.Proofs.YtgmigcmhnmmdkaaDoor.Ev

/- The program's event trees: Node, Leq, Join, Same. -/
set_option linter.all false
set_option maxRecDepth 100000
namespace Go.Proofs.YtgmigcmhnmmdkaaDoor.Ev
open Go.RowKit Go.Sep

def nodeR (n : Nat) (l r : E) : E × Nat :=
  if 16 ≤ max l.depth r.depth then (.leaf 0, 3) else if 1048576 < n then (.leaf 0, 4) else if 1048576 < n + max l.top r.top then (.leaf 0, 4) else (E.mk n l r, 0)
theorem E.mk_top (n : Nat) (l r : E) : (E.mk n l r).top ≤ n + max l.top r.top := by
  have h1 := E.base_le l
  have h2 := E.base_le r
  unfold E.mk
  split
  · show n + l.base ≤ _; omega
  · have key : ∀ (m : Nat) (t : E), m ≤ t.base → (E.dn m t).top + m ≤ t.top := fun m t hm => by
      cases t with
      | leaf k => simp only [E.dn, E.top, E.base] at *; omega
      | node k a b => simp only [E.dn, E.top, E.base] at *; omega
    have h3 := key (min l.base r.base) l (by omega)
    have h4 := key (min l.base r.base) r (by omega)
    show n + min l.base r.base + max (E.dn (min l.base r.base) l).top (E.dn (min l.base r.base) r).top ≤ _
    omega
theorem E.mk_depth (n : Nat) (l r : E) : (E.mk n l r).depth ≤ 1 + max l.depth r.depth := by
  unfold E.mk
  split
  · show 0 ≤ _; omega
  · show 1 + max (E.dn _ l).depth (E.dn _ r).depth ≤ _
    rw [E.dn_depth, E.dn_depth]; omega
set_option maxHeartbeats 1000000 in
theorem nodeR_c {I : IM} {n : Nat} {l r : E} {bl br : Nat} {pl pr : Option Addr} (hl : ERep I l bl pl) (hr : ERep I r br pr) (htl : l.top ≤ 1048576) (htr : r.top ≤ 1048576) (hdl : l.depth ≤ 1000) (hdr : r.depth ≤ 1000) : Fun Tryd.prog 107 #[.int .u64 ((n : Nat) : Int), evv bl pl, evv br pr] I (fun v J => ∃ b p, v = .tuple #[evv b p, .int .i64 (((nodeR n l r).2 : Nat) : Int)] ∧ ERep J (nodeR n l r).1 b p) := by
 refine enter_rule 32 [(0, .int .u64 n), (1, .agg #[.int .u64 bl, .pointer pl]), (2, .agg #[.int .u64 br, .pointer pr])] Tryd.func107 rfl (by kernel_rfl) ?_
 intro w s
 refine seqR ?_
 refine oAD [] [] 4 [] 3 (fun φ1 => [(7, .int .i64 0), (6, pB (φ1 2)), (5, pB (φ1 1)), (4, pB (φ1 0))]) (fun φ1 => [(φ1 0, .cells #[.int .u64 bl, .pointer pl] 44), (φ1 1, .cells #[.int .u64 br, .pointer pr] 44), (φ1 2, .cells #[.int .u64 0, .pointer none] 44)]) (fun φ1 => []) s (fun φ1 => by kernel_rfl) (by kernel_rfl) ?_
 intro φ1 w1 s
 refine wp_seq ?_
 refine wp_seq ?_
 refine draw_rule (C := []) ⟨(fun φ2 xs2 => [.look 0 [.o 0, .o 0] [φ1 0, φ1 0], .call 118 #[.agg #[.int .u64 bl, .pointer pl]], .look 0 [.o 1, .o 1] [φ1 1, φ1 1], .call 118 #[.agg #[.int .u64 br, .pointer pr]], .sub 0 [] [] (.int .i64 (if ((E.depth r : Nat) : Int) > ((E.depth l : Nat) : Int) then ((E.depth r : Nat) : Int) else ((E.depth l : Nat) : Int))), .sub 0 [] [] (.bool (decide (((max (E.depth l) (E.depth r) : Nat) : Int) ≥ ((16 : Nat) : Int))))]), (fun φ2 xs2 => [.agg #[.int .u64 bl, .pointer pl], .int .i64 (E.depth l), .agg #[.int .u64 br, .pointer pr], .int .i64 (E.depth r), .int .i64 ((max (E.depth l) (E.depth r) : Nat) : Int), .bool (decide (16 ≤ (max (E.depth l) (E.depth r))))]), (fun φ2 xs2 => [[(φ1 0, .cells #[.int .u64 bl, .pointer pl] 44), (φ1 1, .cells #[.int .u64 br, .pointer pr] 44), (φ1 2, .cells #[.int .u64 0, .pointer none] 44)]]), (fun φ2 xs2 => [[default, default, default, default, default, default]]), [], [1, 3, 1, 3, 5, 5]⟩ (fun j => ([MP.any] : List MP).getD j MP.any) [1, 3] [4, 5] [] (fun φ2 xs2 => []) (fun φ2 xs2 => [(8, .agg #[.int .u64 bl, .pointer pl]), (9, .int .i64 (E.depth l)), (10, .agg #[.int .u64 br, .pointer pr]), (11, .int .i64 (E.depth r)), (12, .int .i64 ((max (E.depth l) (E.depth r) : Nat) : Int)), (13, .bool (decide (16 ≤ (max (E.depth l) (E.depth r)))))]) (fun φ2 xs2 => [(φ1 0, .cells #[.int .u64 bl, .pointer pl] 44), (φ1 1, .cells #[.int .u64 br, .pointer pr] 44), (φ1 2, .cells #[.int .u64 0, .pointer none] 44)]) s trivial (by kernel_rfl) (by kernel_rfl) (fun _ _ => by kernel_rfl) (fun _ _ => by kernel_rfl) ⟨fun _ _ => by kernel_rfl, fun _ _ => by kernel_rfl, fun _ _ => by kernel_rfl, fun _ _ => by kernel_rfl⟩ (fun _ _ _ => by kernel_rfl) (fun _ _ => by kernel_rfl) (fun _ _ => by kernel_rfl) (fun _ _ => by kernel_rfl) (fun _ _ => by kernel_rfl) (fun _ _ => by kernel_rfl) ⟨kcast (A := ∀ (φ2 : Nat → Nat) (xs2 : Xs), (.int .i64 (if ((E.depth r : Nat) : Int) > ((E.depth l : Nat) : Int) then ((E.depth r : Nat) : Int) else ((E.depth l : Nat) : Int)) : Value) = .int .i64 ((max (E.depth l) (E.depth r) : Nat) : Int)) (by kernel_rfl) (fun φ2 xs2 => congrArg (Value.int .i64) ((nat_max (a := (E.depth l)) (b := (E.depth r))))), ⟨kcast (A := ∀ (φ2 : Nat → Nat) (xs2 : Xs), (.bool (decide (((max (E.depth l) (E.depth r) : Nat) : Int) ≥ ((16 : Nat) : Int))) : Value) = .bool (decide (16 ≤ (max (E.depth l) (E.depth r))))) (by kernel_rfl) (fun φ2 xs2 => congrArg Value.bool ((nat_geq (a := (max (E.depth l) (E.depth r))) (b := 16)))), trivial⟩⟩ trivial (by kernel_rfl) ⟨?c2_1, ?c2_3, trivial⟩ ?k2
 case c2_1 =>
  refine kcast (A := ∀ (φ2 : Nat → Nat) (xs2 : Xs) (J1_2 : IM), I.Le J1_2 → Fun Tryd.prog 118 #[.agg #[.int .u64 bl, .pointer pl]] J1_2 (fun v J' => ∃ x : UX, v = .int .i64 (E.depth l) ∧ (True))) (by kernel_rfl) ?_
  intro φ2 xs2 J1_2 leJ
  have hl := ERep.mono leJ hl
  exact Fun.mono (depth_c hl) (fun v J' _ h => ⟨UX.d, h, trivial⟩)
 case c2_3 =>
  refine kcast (A := ∀ (φ2 : Nat → Nat) (xs2 : Xs) (J3_2 : IM), I.Le J3_2 → (True) → Fun Tryd.prog 118 #[.agg #[.int .u64 br, .pointer pr]] J3_2 (fun v J' => ∃ x : UX, v = .int .i64 (E.depth r) ∧ (True))) (by kernel_rfl) ?_
  intro φ2 xs2 J3_2 leJ
  rintro _
  have hr := ERep.mono leJ hr
  exact Fun.mono (depth_c hr) (fun v J' _ h => ⟨UX.d, h, trivial⟩)
 case k2 =>
  rintro φ2 xs2 I2 w2 le2 s _ _
  replace hl := ERep.mono le2 hl
  replace hr := ERep.mono le2 hr
  rcases Bool.eq_false_or_eq_true (decide (16 ≤ (max (E.depth l) (E.depth r)))) with hc3 | hc3
  ·
   rw [hc3]
   refine cond_true_rule (b := true) (by kernel_rfl) rfl ?_
   refine seqR ?_
   refine oKD [(φ1 0, .cells #[.int .u64 bl, .pointer pl] 44), (φ1 1, .cells #[.int .u64 br, .pointer pr] 44), (φ1 2, .cells #[.int .u64 0, .pointer none] 44)] [] 3 [.o 2, .o 2] 0 (fun φ4 => [(7, .int .i64 3), (14, .agg #[.int .u64 0, .pointer none])]) (fun φ4 => [φ1 2, φ1 2]) s (fun φ4 => by kernel_rfl) (by kernel_rfl) ?_
   intro φ4 w4 s
   refine wp_ret ?_
   refine ret_rule (C := []) _ [] (.tuple #[.agg #[.int .u64 0, .pointer none], .int .i64 3]) [.o 2, .o 2] [φ1 2, φ1 2] s trivial (by kernel_rfl) ?_
   have hR : nodeR n l r = (E.leaf 0, 3) := by unfold nodeR; rw [if_pos (of_decide_eq_true hc3)]
   rw [hR]
   exact ⟨_, _, _, rfl, s, ⟨_, _, rfl, rfl, rfl⟩⟩
  ·
   rw [hc3]
   refine cond_false_rule (b := false) (by kernel_rfl) rfl ?_
   refine wp_skip ?_
   refine wp_seq ?_
   refine wp_seq ?_
   rcases Bool.eq_false_or_eq_true (decide (1048576 < n)) with hc5 | hc5
   ·
    refine draw_rule (C := []) ⟨(fun φ6 xs6 => [.look 0 [] [], .sub 0 [] [] (.bool (decide (((n : Nat) : Int) > ((1048576 : Nat) : Int)))), .look 0 [] [], .skip, .skip, .skip, .skip, .skip, .skip, .skip, .skip, .look 0 [] []]), (fun φ6 xs6 => [.int .u64 n, .bool true, .bool true, undef, undef, undef, undef, undef, undef, undef, undef, .bool true]), (fun φ6 xs6 => [[(φ1 0, .cells #[.int .u64 bl, .pointer pl] 44), (φ1 1, .cells #[.int .u64 br, .pointer pr] 44), (φ1 2, .cells #[.int .u64 0, .pointer none] 44)]]), (fun φ6 xs6 => [[default, default, default, default, default, default, default, default, default, default, default, default]]), [], [1, 5, 1, 0, 0, 0, 0, 0, 0, 0, 0, 1]⟩ (fun j => ([MP.any] : List MP).getD j MP.any) [] [1] [] (fun φ6 xs6 => []) (fun φ6 xs6 => [(15, .int .u64 n), (16, .bool true), (17, .bool true), (18, undef), (19, undef), (20, undef), (21, undef), (22, undef), (23, undef), (24, undef), (25, undef), (26, .bool true)]) (fun φ6 xs6 => [(φ1 0, .cells #[.int .u64 bl, .pointer pl] 44), (φ1 1, .cells #[.int .u64 br, .pointer pr] 44), (φ1 2, .cells #[.int .u64 0, .pointer none] 44)]) s trivial (by kernel_rfl) (by kernel_rfl) (fun _ _ => by kernel_rfl) (fun _ _ => by kernel_rfl) ⟨fun _ _ => by kernel_rfl, fun _ _ => by kernel_rfl, fun _ _ => by kernel_rfl, fun _ _ => by kernel_rfl⟩ (fun _ _ _ => by kernel_rfl) (fun _ _ => by kernel_rfl) (fun _ _ => by kernel_rfl) (fun _ _ => by kernel_rfl) (fun _ _ => by kernel_rfl) (fun _ _ => by kernel_rfl) ⟨kcast (A := ∀ (φ6 : Nat → Nat) (xs6 : Xs), (.bool (decide (((n : Nat) : Int) > ((1048576 : Nat) : Int))) : Value) = .bool true) (by kernel_rfl) (fun φ6 xs6 => congrArg Value.bool ((nat_gtr (a := n) (b := 1048576)).trans (hc5))), trivial⟩ trivial (by kernel_rfl) trivial ?k6
    case k6 =>
     rintro φ6 xs6 I6 w6 le6 s 
     replace hl := ERep.mono le6 hl
     replace hr := ERep.mono le6 hr
     refine cond_true_rule (b := true) (by kernel_rfl) rfl ?_
     refine seqR ?_
     refine oKD [(φ1 0, .cells #[.int .u64 bl, .pointer pl] 44), (φ1 1, .cells #[.int .u64 br, .pointer pr] 44), (φ1 2, .cells #[.int .u64 0, .pointer none] 44)] [] 3 [.o 2, .o 2] 0 (fun φ7 => [(7, .int .i64 4), (27, .agg #[.int .u64 0, .pointer none])]) (fun φ7 => [φ1 2, φ1 2]) s (fun φ7 => by kernel_rfl) (by kernel_rfl) ?_
     intro φ7 w7 s
     refine wp_ret ?_
     refine ret_rule (C := []) _ [] (.tuple #[.agg #[.int .u64 0, .pointer none], .int .i64 4]) [.o 2, .o 2] [φ1 2, φ1 2] s trivial (by kernel_rfl) ?_
     have hR : nodeR n l r = (E.leaf 0, 4) := by unfold nodeR; rw [if_neg (of_decide_eq_false hc3), if_pos (of_decide_eq_true hc5)]
     rw [hR]
     exact ⟨_, _, _, rfl, s, ⟨_, _, rfl, rfl, rfl⟩⟩
   ·
    refine draw_rule (C := []) ⟨(fun φ8 xs8 => [.look 0 [] [], .sub 0 [] [] (.bool (decide (((n : Nat) : Int) > ((1048576 : Nat) : Int)))), .look 0 [] [], .look 0 [] [], .look 0 [.o 0, .o 0] [φ1 0, φ1 0], .call 117 #[.agg #[.int .u64 bl, .pointer pl]], .look 0 [.o 1, .o 1] [φ1 1, φ1 1], .call 117 #[.agg #[.int .u64 br, .pointer pr]], .sub 0 [] [] (.int .u64 (if ((E.top r : Nat) : Int) > ((E.top l : Nat) : Int) then ((E.top r : Nat) : Int) else ((E.top l : Nat) : Int))), .sub 0 [] [] (.int .u64 (IntKind.wrap .u64 (((n : Nat) : Int) + ((max (E.top l) (E.top r) : Nat) : Int)))), .sub 0 [] [] (.bool (decide (((n + (max (E.top l) (E.top r)) : Nat) : Int) > ((1048576 : Nat) : Int)))), .look 0 [] []]), (fun φ8 xs8 => [.int .u64 n, .bool false, .bool false, .int .u64 n, .agg #[.int .u64 bl, .pointer pl], .int .u64 (E.top l), .agg #[.int .u64 br, .pointer pr], .int .u64 (E.top r), .int .u64 ((max (E.top l) (E.top r) : Nat) : Int), .int .u64 ((n + (max (E.top l) (E.top r)) : Nat) : Int), .bool (decide (1048576 < (n + (max (E.top l) (E.top r))))), .bool (decide (1048576 < (n + (max (E.top l) (E.top r)))))]), (fun φ8 xs8 => [[(φ1 0, .cells #[.int .u64 bl, .pointer pl] 44), (φ1 1, .cells #[.int .u64 br, .pointer pr] 44), (φ1 2, .cells #[.int .u64 0, .pointer none] 44)]]), (fun φ8 xs8 => [[default, default, default, default, default, default, default, default, default, default, default, default]]), [], [1, 5, 1, 1, 1, 3, 1, 3, 5, 5, 5, 1]⟩ (fun j => ([MP.any] : List MP).getD j MP.any) [5, 7] [1, 8, 9, 10] [] (fun φ8 xs8 => []) (fun φ8 xs8 => [(15, .int .u64 n), (16, .bool false), (17, .bool false), (18, .int .u64 n), (19, .agg #[.int .u64 bl, .pointer pl]), (20, .int .u64 (E.top l)), (21, .agg #[.int .u64 br, .pointer pr]), (22, .int .u64 (E.top r)), (23, .int .u64 ((max (E.top l) (E.top r) : Nat) : Int)), (24, .int .u64 ((n + (max (E.top l) (E.top r)) : Nat) : Int)), (25, .bool (decide (1048576 < (n + (max (E.top l) (E.top r)))))), (26, .bool (decide (1048576 < (n + (max (E.top l) (E.top r))))))]) (fun φ8 xs8 => [(φ1 0, .cells #[.int .u64 bl, .pointer pl] 44), (φ1 1, .cells #[.int .u64 br, .pointer pr] 44), (φ1 2, .cells #[.int .u64 0, .pointer none] 44)]) s trivial (by kernel_rfl) (by kernel_rfl) (fun _ _ => by kernel_rfl) (fun _ _ => by kernel_rfl) ⟨fun _ _ => by kernel_rfl, fun _ _ => by kernel_rfl, fun _ _ => by kernel_rfl, fun _ _ => by kernel_rfl⟩ (fun _ _ _ => by kernel_rfl) (fun _ _ => by kernel_rfl) (fun _ _ => by kernel_rfl) (fun _ _ => by kernel_rfl) (fun _ _ => by kernel_rfl) (fun _ _ => by kernel_rfl) ⟨kcast (A := ∀ (φ8 : Nat → Nat) (xs8 : Xs), (.bool (decide (((n : Nat) : Int) > ((1048576 : Nat) : Int))) : Value) = .bool false) (by kernel_rfl) (fun φ8 xs8 => congrArg Value.bool ((nat_gtr (a := n) (b := 1048576)).trans (hc5))), ⟨kcast (A := ∀ (φ8 : Nat → Nat) (xs8 : Xs), (.int .u64 (if ((E.top r : Nat) : Int) > ((E.top l : Nat) : Int) then ((E.top r : Nat) : Int) else ((E.top l : Nat) : Int)) : Value) = .int .u64 ((max (E.top l) (E.top r) : Nat) : Int)) (by kernel_rfl) (fun φ8 xs8 => congrArg (Value.int .u64) ((nat_max (a := (E.top l)) (b := (E.top r))))), ⟨kcast (A := ∀ (φ8 : Nat → Nat) (xs8 : Xs), (.int .u64 (IntKind.wrap .u64 (((n : Nat) : Int) + ((max (E.top l) (E.top r) : Nat) : Int))) : Value) = .int .u64 ((n + (max (E.top l) (E.top r)) : Nat) : Int)) (by kernel_rfl) (fun φ8 xs8 => congrArg (Value.int .u64) ((nat_addU (a := n) (b := (max (E.top l) (E.top r))) (by have := of_decide_eq_false hc5; omega)))), ⟨kcast (A := ∀ (φ8 : Nat → Nat) (xs8 : Xs), (.bool (decide (((n + (max (E.top l) (E.top r)) : Nat) : Int) > ((1048576 : Nat) : Int))) : Value) = .bool (decide (1048576 < (n + (max (E.top l) (E.top r)))))) (by kernel_rfl) (fun φ8 xs8 => congrArg Value.bool ((nat_gtr (a := (n + (max (E.top l) (E.top r)))) (b := 1048576)))), trivial⟩⟩⟩⟩ trivial (by kernel_rfl) ⟨?c8_5, ?c8_7, trivial⟩ ?k8
    case c8_5 =>
     refine kcast (A := ∀ (φ8 : Nat → Nat) (xs8 : Xs) (J5_8 : IM), I2.Le J5_8 → Fun Tryd.prog 117 #[.agg #[.int .u64 bl, .pointer pl]] J5_8 (fun v J' => ∃ x : UX, v = .int .u64 (E.top l) ∧ (True))) (by kernel_rfl) ?_
     intro φ8 xs8 J5_8 leJ
     have hl := ERep.mono leJ hl
     exact Fun.mono (max_c hl (by omega)) (fun v J' _ h => ⟨UX.d, h, trivial⟩)
    case c8_7 =>
     refine kcast (A := ∀ (φ8 : Nat → Nat) (xs8 : Xs) (J7_8 : IM), I2.Le J7_8 → (True) → Fun Tryd.prog 117 #[.agg #[.int .u64 br, .pointer pr]] J7_8 (fun v J' => ∃ x : UX, v = .int .u64 (E.top r) ∧ (True))) (by kernel_rfl) ?_
     intro φ8 xs8 J7_8 leJ
     rintro _
     have hr := ERep.mono leJ hr
     exact Fun.mono (max_c hr (by omega)) (fun v J' _ h => ⟨UX.d, h, trivial⟩)
    case k8 =>
     rintro φ8 xs8 I8 w8 le8 s _ _
     replace hl := ERep.mono le8 hl
     replace hr := ERep.mono le8 hr
     rcases Bool.eq_false_or_eq_true (decide (1048576 < (n + (max (E.top l) (E.top r))))) with hc9 | hc9
     ·
      rw [hc9]
      refine cond_true_rule (b := true) (by kernel_rfl) rfl ?_
      refine seqR ?_
      refine oKD [(φ1 0, .cells #[.int .u64 bl, .pointer pl] 44), (φ1 1, .cells #[.int .u64 br, .pointer pr] 44), (φ1 2, .cells #[.int .u64 0, .pointer none] 44)] [] 3 [.o 2, .o 2] 0 (fun φ10 => [(7, .int .i64 4), (27, .agg #[.int .u64 0, .pointer none])]) (fun φ10 => [φ1 2, φ1 2]) s (fun φ10 => by kernel_rfl) (by kernel_rfl) ?_
      intro φ10 w10 s
      refine wp_ret ?_
      refine ret_rule (C := []) _ [] (.tuple #[.agg #[.int .u64 0, .pointer none], .int .i64 4]) [.o 2, .o 2] [φ1 2, φ1 2] s trivial (by kernel_rfl) ?_
      have hR : nodeR n l r = (E.leaf 0, 4) := by unfold nodeR; rw [if_neg (of_decide_eq_false hc3), if_neg (of_decide_eq_false hc5), if_pos (of_decide_eq_true hc9)]
      rw [hR]
      exact ⟨_, _, _, rfl, s, ⟨_, _, rfl, rfl, rfl⟩⟩
     ·
      rw [hc9]
      refine cond_false_rule (b := false) (by kernel_rfl) rfl ?_
      refine wp_skip ?_
      refine seqR ?_
      refine oK [(φ1 0, .cells #[.int .u64 bl, .pointer pl] 44), (φ1 1, .cells #[.int .u64 br, .pointer pr] 44), (φ1 2, .cells #[.int .u64 0, .pointer none] 44)] [] 3 [.o 0, .o 0, .o 1, .o 1] 0 (fun φ11 => [(30, .agg #[.int .u64 br, .pointer pr]), (29, .agg #[.int .u64 bl, .pointer pl]), (28, .int .u64 n)]) (fun φ11 => [φ1 0, φ1 0, φ1 1, φ1 1]) s (fun φ11 => by kernel_rfl) ?_
      intro φ11 w11 s
      refine call_rule (some 31) s (node_c (n := n) hl hr (by simp only [decide_eq_false_iff_not] at *; omega) (by simp only [decide_eq_false_iff_not] at *; omega) (by simp only [decide_eq_false_iff_not] at *; omega)) (by kernel_rfl) ?_
      intro v12 I12 w12 le12 h12 s
      obtain ⟨b12, p12, rfl, h12_0⟩ := h12
      refine oAD _ [] 2 [.o 2, .o 2] 0 (fun φ13 => [(7, .int .i64 0)]) (fun φ13 => [(φ1 0, .cells #[.int .u64 bl, .pointer pl] 44), (φ1 1, .cells #[.int .u64 br, .pointer pr] 44), (φ1 2, .cells #[.int .u64 b12, .pointer p12] 44)]) (fun φ13 => [φ1 2, φ1 2]) s (fun φ13 => by kernel_rfl) (by kernel_rfl) ?_
      intro φ13 w13 s
      refine wp_ret ?_
      refine ret_rule (C := []) _ [] (.tuple #[.agg #[.int .u64 b12, .pointer p12], .int .i64 0]) [.o 2, .o 2] [φ1 2, φ1 2] s trivial (by kernel_rfl) ?_
      have hR : nodeR n l r = (E.mk n l r, 0) := by unfold nodeR; rw [if_neg (of_decide_eq_false hc3), if_neg (of_decide_eq_false hc5), if_neg (of_decide_eq_false hc9)]
      rw [hR]
      exact ⟨_, _, _, rfl, s, ⟨_, _, rfl, h12_0⟩⟩

end Go.Proofs.YtgmigcmhnmmdkaaDoor.Ev

/- Event trees as texts. -/
set_option linter.all false
set_option maxRecDepth 100000
namespace Go.Proofs.YtgmigcmhnmmdkaaDoor.Ev
open Go.RowKit Go.Sep Go.Lib

def textE : E → List UInt8
  | .leaf n => Lib.decDigits n
  | .node n l r => [40] ++ Lib.decDigits n ++ [44] ++ textE l ++ [44] ++ textE r ++ [41]
theorem push_all : ∀ (l : List UInt8) (s : ByteArray), (l.map fun b => ((b.toNat : Nat) : Int)).foldl (fun r n => r.push (UInt8.ofNat n.toNat)) s = ⟨s.data ++ l.toArray⟩
  | [], s => by cases s; simp
  | b :: l, s => by
    simp only [List.map_cons, List.foldl_cons, Int.toNat_natCast]
    rw [push_all l]
    have : UInt8.ofNat b.toNat = b := by simp
    rw [this]
    congr 1
    apply Array.ext'
    simp [ByteArray.push]
theorem run_rowString {w0 : World} {I0 : IM} {m : List Nat} {I : IM} {H F : List OB} {w : World} (s : St w0 I0 m I w (H ++ F)) {v : Value} {n : Nat} {l : List UInt8} (h : RowH 5 1 v n (bcs l) F) : (convert 22 9 v).run Tryd.prog w = .ok (.string ⟨l.toArray⟩) w := by
  have hl : l.length = n := by have := h.1; rw [Lib.byteCells_length] at this; omega
  subst hl
  rcases h.2 with ⟨rfl, hn, hF⟩ | ⟨g, cap, cur, rfl, rfl, hc, hm, hs, ht⟩
  · rw [run_convert_bytes_string w 22 9 5 _ _ _ Tryd.underlying22 Tryd.underlying5 Tryd.underlying9]
    have : l = [] := List.eq_nil_of_length_eq_zero hn
    subst this; rfl
  · have hb : w.heap[g]? = some (.cells cur 5 (0, 0)) := s.own (g, _) (by simp)
    rw [run_convert_bytes_string w 22 9 5 _ _ _ Tryd.underlying22 Tryd.underlying5 Tryd.underlying9]
    have hld : (loadCells ⟨g, 0, none⟩ l.length).run Tryd.prog w = .ok ((l.map fun b => ((b.toNat : Nat) : Int)).map (Value.int .u8)).toArray w := by
      have := run_firstCells_some (P := Tryd.prog) w 1 l.length ⟨g, 0, none⟩ l.length cap (bcs l) (by rw [Lib.byteCells_length]; omega) (fun j u hu => by
        have hadd : (⟨g, 0, none⟩ : Addr).add j = ⟨g, j, none⟩ := by unfold Addr.add; split <;> simp_all
        rw [hadd, run_cell (a := ⟨g, j, none⟩) hb rfl rfl]
        rw [← ht, List.getElem?_take] at hu
        split at hu
        · simpa using hu
        · cases hu)
      simp only [Builtin.firstCells, Nat.mul_one] at this
      rw [this]; simp [Lib.byteCells]
    rw [run_bytesToString w ⟨g, 0, none⟩ l.length cap _ hld, push_all]
    simp

set_option maxHeartbeats 1000000 in
theorem appendText_leaf {m : Nat} {I : IM} {b n : Nat} {p : Option Addr} {v : Value} {xs : List Value} {F : List OB} (hT : Tab I) (h : ERep I (E.leaf m) b p) (hrow : RowH 5 1 v n xs F) (ht : (E.leaf m).top < 18446744073709551616) (hlim : n + (textE (E.leaf m)).length + 20 ≤ 140737488355328) : FunM Tryd.prog 51 #[evv b p, v] I F (fun v' J F' => RowH 5 1 v' (n + (textE (E.leaf m)).length) (xs ++ bcs (textE (E.leaf m))) F') := by
 obtain ⟨rfl, rfl⟩ := h
 have hlim1 : n + (Lib.decDigits b).length + 20 ≤ 140737488355328 := hlim
 have ht1 : b < 18446744073709551616 := ht
 refine enterM_rule 35 [(0, .agg #[.int .u64 b, .pointer none]), (1, v)] Tryd.func51 rfl (by kernel_rfl) ?_
 intro w s
 refine seqR ?_
 refine oAD [] F 2 [] 1 (fun φ1 => [(4, .slice none 0 0), (2, pB (φ1 0))]) (fun φ1 => [(φ1 0, .cells #[.int .u64 b, .pointer none] 44)]) (fun φ1 => []) s (fun φ1 => by kernel_rfl) (by kernel_rfl) ?_
 intro φ1 w1 s
 refine wp_seq ?_
 refine seqR ?_
 refine oK _ F 1 [.o 0, .o 0] 0 (fun φ2 => [(5, .agg #[.int .u64 b, .pointer none])]) (fun φ2 => [φ1 0, φ1 0]) s (fun φ2 => by kernel_rfl) ?_
 intro φ2 w2 s
 refine call_rule (some 6) s (isLeaf_c (ERep.lf _ b)) (by kernel_rfl) ?_
 intro v3 I3 w3 le3 h3 s
 replace hT := Tab.mono le3 hT
 obtain rfl := h3
 refine ops_done (by kernel_rfl) ?_
 refine cond_true_rule (b := true) (by kernel_rfl) rfl ?_
 refine seqR ?_
 refine oK _ F 3 [.o 0] 0 (fun φ4 => [(9, .int .u64 b), (8, pB (φ1 0)), (7, v)]) (fun φ4 => [(φ1 0)]) s (fun φ4 => by kernel_rfl) ?_
 intro φ4 w4 s
 refine callF_rule (F := F) (some 10) s (appendUint_c (u := b) hT (by omega) hrow (by omega)) (by kernel_rfl) ?_
 intro v5 I5 w5 F5 le5 h5 s
 refine oKD _ F5 1 [] 0 (fun φ6 => [(4, v5)]) (fun φ6 => []) s (fun φ6 => by kernel_rfl) (by kernel_rfl) ?_
 intro φ6 w6 s
 refine wp_ret ?_
 refine ret_rule (C := []) _ F5 (v5) [] [] s trivial (by kernel_rfl) ?_
 replace s := s.drop (List.sublist_append_right [((φ1 0), .cells #[.int .u64 ((b : Nat) : Int), .pointer none] 44)] F5)
 exact ⟨_, _, _, rfl, s, h5⟩

set_option maxHeartbeats 2000000 in
theorem appendText_node {m : Nat} {l r : E} {I : IM} {b n : Nat} {p : Option Addr} {v : Value} {xs : List Value} {F : List OB} (hT : Tab I) (h : ERep I (E.node m l r) b p) (hrow : RowH 5 1 v n xs F) (ht : (E.node m l r).top < 18446744073709551616) (hlim : n + (textE (E.node m l r)).length + 20 ≤ 140737488355328) (ihl : ∀ {I : IM} {b n : Nat} {p : Option Addr} {v : Value} {xs : List Value} {F : List OB}, Tab I → ERep I l b p → RowH 5 1 v n xs F → n + (textE l).length + 20 ≤ 140737488355328 → FunM Tryd.prog 51 #[evv b p, v] I F (fun v' J F' => RowH 5 1 v' (n + (textE l).length) (xs ++ bcs (textE l)) F')) (ihr : ∀ {I : IM} {b n : Nat} {p : Option Addr} {v : Value} {xs : List Value} {F : List OB}, Tab I → ERep I r b p → RowH 5 1 v n xs F → n + (textE r).length + 20 ≤ 140737488355328 → FunM Tryd.prog 51 #[evv b p, v] I F (fun v' J F' => RowH 5 1 v' (n + (textE r).length) (xs ++ bcs (textE r)) F')) : FunM Tryd.prog 51 #[evv b p, v] I F (fun v' J F' => RowH 5 1 v' (n + (textE (E.node m l r)).length) (xs ++ bcs (textE (E.node m l r))) F') := by
 have hn := h
 obtain ⟨rfl, k, bl, pl, br, pr, rfl, hk, hl, hr⟩ := h
 have hlim1 : n + (Lib.decDigits b).length + (textE l).length + (textE r).length + 4 + 20 ≤ 140737488355328 := by simp only [textE, List.length_append, List.length_cons, List.length_nil] at hlim; omega
 have ht1 : b + max l.top r.top < 18446744073709551616 := ht
 refine enterM_rule 35 [(0, .agg #[.int .u64 b, pB k]), (1, v)] Tryd.func51 rfl (by kernel_rfl) ?_
 intro w s
 refine seqR ?_
 refine oAD [] F 2 [] 1 (fun φ1 => [(4, .slice none 0 0), (2, pB (φ1 0))]) (fun φ1 => [(φ1 0, .cells #[.int .u64 b, pB k] 44)]) (fun φ1 => []) s (fun φ1 => by kernel_rfl) (by kernel_rfl) ?_
 intro φ1 w1 s
 refine wp_seq ?_
 refine seqR ?_
 refine oK _ F 1 [.o 0, .o 0] 0 (fun φ2 => [(5, .agg #[.int .u64 b, pB k])]) (fun φ2 => [φ1 0, φ1 0]) s (fun φ2 => by kernel_rfl) ?_
 intro φ2 w2 s
 refine call_rule (some 6) s (isLeaf_c hn) (by kernel_rfl) ?_
 intro v3 I3 w3 le3 h3 s
 replace hT := Tab.mono le3 hT
 replace hn := ERep.mono le3 hn
 obtain rfl := h3
 refine ops_done (by kernel_rfl) ?_
 refine cond_false_rule (b := false) (by kernel_rfl) rfl ?_
 refine wp_skip ?_
 refine seqR ?_
 refine oA _ F 2 [] 1 (fun φ4 => [(12, .slice (some ⟨(φ4 0), 0, none⟩) 1 1), (11, v)]) (fun φ4 => [(φ1 0, .cells #[.int .u64 b, pB k] 44), (φ4 0, .cells #[.int .u8 40] 5)]) (fun φ4 => []) s (fun φ4 => by kernel_rfl) ?_
 intro φ4 w4 s
 refine append_rule (H := [(φ1 0, .cells #[.int .u64 b, pB k] 44), (φ4 0, .cells #[.int .u8 40] 5)]) (F := F) 22 22 5 Tryd.t5 (.int .u8 0) 1 1 (some 13) s Tryd.underlying22 (by kernel_rfl) (by kernel_rfl) (by kernel_rfl) (by kernel_rfl) (by kernel_rfl) (by decide) hrow (src_own s 1 (φ4 0) #[.int .u8 40] 5 22 5 1 1 1 [.int .u8 40] (by kernel_rfl) Tryd.underlying22 (by kernel_rfl) (by kernel_rfl) (by kernel_rfl)) (by simp only [maxLen]; omega) (by omega) (by kernel_rfl) ?_
 intro v5 w5 F5 s h5
 refine oKD _ F5 1 [] 0 (fun φ6 => [(1, v5)]) (fun φ6 => []) s (fun φ6 => by kernel_rfl) (by kernel_rfl) ?_
 intro φ6 w6 s
 refine seqR ?_
 refine oK _ F5 3 [.o 0] 0 (fun φ7 => [(16, .int .u64 b), (15, pB (φ1 0)), (14, v5)]) (fun φ7 => [(φ1 0)]) s (fun φ7 => by kernel_rfl) ?_
 intro φ7 w7 s
 refine callF_rule (F := F5) (some 17) s (appendUint_c (u := b) hT (by omega) h5 (by omega)) (by kernel_rfl) ?_
 intro v8 I8 w8 F8 le8 h8 s
 replace hT := Tab.mono le8 hT
 replace hn := ERep.mono le8 hn
 refine oKD _ F8 1 [] 0 (fun φ9 => [(1, v8)]) (fun φ9 => []) s (fun φ9 => by kernel_rfl) (by kernel_rfl) ?_
 intro φ9 w9 s
 refine seqR ?_
 refine oA _ F8 2 [] 1 (fun φ10 => [(19, .slice (some ⟨(φ10 0), 0, none⟩) 1 1), (18, v8)]) (fun φ10 => [(φ1 0, .cells #[.int .u64 b, pB k] 44), (φ4 0, .cells #[.int .u8 40] 5), (φ10 0, .cells #[.int .u8 44] 5)]) (fun φ10 => []) s (fun φ10 => by kernel_rfl) ?_
 intro φ10 w10 s
 refine append_rule (H := [(φ1 0, .cells #[.int .u64 b, pB k] 44), (φ4 0, .cells #[.int .u8 40] 5), (φ10 0, .cells #[.int .u8 44] 5)]) (F := F8) 22 22 5 Tryd.t5 (.int .u8 0) 1 1 (some 20) s Tryd.underlying22 (by kernel_rfl) (by kernel_rfl) (by kernel_rfl) (by kernel_rfl) (by kernel_rfl) (by decide) h8 (src_own s 2 (φ10 0) #[.int .u8 44] 5 22 5 1 1 1 [.int .u8 44] (by kernel_rfl) Tryd.underlying22 (by kernel_rfl) (by kernel_rfl) (by kernel_rfl)) (by simp only [maxLen]; omega) (by omega) (by kernel_rfl) ?_
 intro v11 w11 F11 s h11
 refine oKD _ F11 1 [] 0 (fun φ12 => [(1, v11)]) (fun φ12 => []) s (fun φ12 => by kernel_rfl) (by kernel_rfl) ?_
 intro φ12 w12 s
 refine seqR ?_
 refine oK _ F11 1 [.o 0, .o 0] 0 (fun φ13 => [(21, .agg #[.int .u64 b, pB k])]) (fun φ13 => [φ1 0, φ1 0]) s (fun φ13 => by kernel_rfl) ?_
 intro φ13 w13 s
 refine call_rule (some 22) s (left_c hn) (by kernel_rfl) ?_
 intro v14 I14 w14 le14 h14 s
 replace hT := Tab.mono le14 hT
 replace hn := ERep.mono le14 hn
 obtain ⟨b14, p14, rfl, h14_0⟩ := h14
 refine oK _ F11 1 [] 0 (fun φ15 => [(23, v11)]) (fun φ15 => []) s (fun φ15 => by kernel_rfl) ?_
 intro φ15 w15 s
 refine callF_rule (F := F11) (some 24) s (ihl hT h14_0 h11 (by omega)) (by kernel_rfl) ?_
 intro v16 I16 w16 F16 le16 h16 s
 replace hT := Tab.mono le16 hT
 replace hn := ERep.mono le16 hn
 refine oKD _ F16 1 [] 0 (fun φ17 => [(1, v16)]) (fun φ17 => []) s (fun φ17 => by kernel_rfl) (by kernel_rfl) ?_
 intro φ17 w17 s
 refine seqR ?_
 refine oA _ F16 2 [] 1 (fun φ18 => [(26, .slice (some ⟨(φ18 0), 0, none⟩) 1 1), (25, v16)]) (fun φ18 => [(φ1 0, .cells #[.int .u64 b, pB k] 44), (φ4 0, .cells #[.int .u8 40] 5), (φ10 0, .cells #[.int .u8 44] 5), (φ18 0, .cells #[.int .u8 44] 5)]) (fun φ18 => []) s (fun φ18 => by kernel_rfl) ?_
 intro φ18 w18 s
 refine append_rule (H := [(φ1 0, .cells #[.int .u64 b, pB k] 44), (φ4 0, .cells #[.int .u8 40] 5), (φ10 0, .cells #[.int .u8 44] 5), (φ18 0, .cells #[.int .u8 44] 5)]) (F := F16) 22 22 5 Tryd.t5 (.int .u8 0) 1 1 (some 27) s Tryd.underlying22 (by kernel_rfl) (by kernel_rfl) (by kernel_rfl) (by kernel_rfl) (by kernel_rfl) (by decide) h16 (src_own s 3 (φ18 0) #[.int .u8 44] 5 22 5 1 1 1 [.int .u8 44] (by kernel_rfl) Tryd.underlying22 (by kernel_rfl) (by kernel_rfl) (by kernel_rfl)) (by simp only [maxLen]; omega) (by omega) (by kernel_rfl) ?_
 intro v19 w19 F19 s h19
 refine oKD _ F19 1 [] 0 (fun φ20 => [(1, v19)]) (fun φ20 => []) s (fun φ20 => by kernel_rfl) (by kernel_rfl) ?_
 intro φ20 w20 s
 refine seqR ?_
 refine oK _ F19 1 [.o 0, .o 0] 0 (fun φ21 => [(28, .agg #[.int .u64 b, pB k])]) (fun φ21 => [φ1 0, φ1 0]) s (fun φ21 => by kernel_rfl) ?_
 intro φ21 w21 s
 refine call_rule (some 29) s (right_c hn) (by kernel_rfl) ?_
 intro v22 I22 w22 le22 h22 s
 replace hT := Tab.mono le22 hT
 obtain ⟨b22, p22, rfl, h22_0⟩ := h22
 refine oK _ F19 1 [] 0 (fun φ23 => [(30, v19)]) (fun φ23 => []) s (fun φ23 => by kernel_rfl) ?_
 intro φ23 w23 s
 refine callF_rule (F := F19) (some 31) s (ihr hT h22_0 h19 (by omega)) (by kernel_rfl) ?_
 intro v24 I24 w24 F24 le24 h24 s
 refine oKD _ F24 1 [] 0 (fun φ25 => [(1, v24)]) (fun φ25 => []) s (fun φ25 => by kernel_rfl) (by kernel_rfl) ?_
 intro φ25 w25 s
 refine seqR ?_
 refine oA _ F24 2 [] 1 (fun φ26 => [(33, .slice (some ⟨(φ26 0), 0, none⟩) 1 1), (32, v24)]) (fun φ26 => [(φ1 0, .cells #[.int .u64 b, pB k] 44), (φ4 0, .cells #[.int .u8 40] 5), (φ10 0, .cells #[.int .u8 44] 5), (φ18 0, .cells #[.int .u8 44] 5), (φ26 0, .cells #[.int .u8 41] 5)]) (fun φ26 => []) s (fun φ26 => by kernel_rfl) ?_
 intro φ26 w26 s
 refine append_rule (H := [(φ1 0, .cells #[.int .u64 b, pB k] 44), (φ4 0, .cells #[.int .u8 40] 5), (φ10 0, .cells #[.int .u8 44] 5), (φ18 0, .cells #[.int .u8 44] 5), (φ26 0, .cells #[.int .u8 41] 5)]) (F := F24) 22 22 5 Tryd.t5 (.int .u8 0) 1 1 (some 34) s Tryd.underlying22 (by kernel_rfl) (by kernel_rfl) (by kernel_rfl) (by kernel_rfl) (by kernel_rfl) (by decide) h24 (src_own s 4 (φ26 0) #[.int .u8 41] 5 22 5 1 1 1 [.int .u8 41] (by kernel_rfl) Tryd.underlying22 (by kernel_rfl) (by kernel_rfl) (by kernel_rfl)) (by simp only [maxLen]; omega) (by omega) (by kernel_rfl) ?_
 intro v27 w27 F27 s h27
 refine oKD _ F27 1 [] 0 (fun φ28 => [(4, v27)]) (fun φ28 => []) s (fun φ28 => by kernel_rfl) (by kernel_rfl) ?_
 intro φ28 w28 s
 refine wp_ret ?_
 refine ret_rule (C := []) _ F27 (v27) [] [] s trivial (by kernel_rfl) ?_
 replace s := s.drop (List.sublist_append_right [((φ1 0), .cells #[.int .u64 ((b : Nat) : Int), .pointer (some ⟨k, 0, none⟩)] 44), ((φ4 0), .cells #[.int .u8 40] 5), ((φ10 0), .cells #[.int .u8 44] 5), ((φ18 0), .cells #[.int .u8 44] 5), ((φ26 0), .cells #[.int .u8 41] 5)] F27)
 exact ⟨_, _, _, rfl, s, (by have e := h27; simp only [textE, Lib.byteCells_append, List.append_assoc, List.length_append, Nat.add_assoc, List.length_cons, List.length_nil, Nat.zero_add] at e ⊢; exact e)⟩

theorem appendText_c : ∀ (t : E) {I : IM} {b n : Nat} {p : Option Addr} {v : Value} {xs : List Value} {F : List OB}, t.top < 18446744073709551616 → Tab I → ERep I t b p → RowH 5 1 v n xs F → n + (textE t).length + 20 ≤ 140737488355328 →
    FunM Tryd.prog 51 #[evv b p, v] I F (fun v' J F' => RowH 5 1 v' (n + (textE t).length) (xs ++ bcs (textE t)) F')
  | .leaf m, _, _, _, _, _, _, _, ht, hT, h, hrow, hlim => appendText_leaf hT h hrow ht hlim
  | .node m l r, _, _, _, _, _, _, _, ht, hT, h, hrow, hlim => by
    have ht1 : m + max l.top r.top < 18446744073709551616 := ht
    exact appendText_node hT h hrow ht hlim (appendText_c l (by omega)) (appendText_c r (by omega))

set_option maxHeartbeats 1000000 in
theorem text_c {I : IM} {t : E} {b : Nat} {p : Option Addr} (hT : Tab I) (h : ERep I t b p) (ht : t.top < 18446744073709551616) (hlim : (textE t).length ≤ 1000000000) : Fun Tryd.prog 19 #[evv b p] I (fun v J => v = .string ⟨(textE t).toArray⟩) := by
 refine enter_rule 6 [(0, .agg #[.int .u64 b, .pointer p])] Tryd.func19 rfl (by kernel_rfl) ?_
 intro w s
 refine seqR ?_
 refine oAD [] [] 2 [] 1 (fun φ1 => [(2, .string ⟨#[]⟩), (1, pB (φ1 0))]) (fun φ1 => [(φ1 0, .cells #[.int .u64 b, .pointer p] 44)]) (fun φ1 => []) s (fun φ1 => by kernel_rfl) (by kernel_rfl) ?_
 intro φ1 w1 s
 refine seqR ?_
 refine oK _ [] 1 [.o 0, .o 0] 0 (fun φ2 => [(3, .agg #[.int .u64 b, .pointer p])]) (fun φ2 => [φ1 0, φ1 0]) s (fun φ2 => by kernel_rfl) ?_
 intro φ2 w2 s
 refine callF_rule (F := []) (some 4) s (appendText_c t ht hT h (RowH.nil 5 1) (by omega)) (by kernel_rfl) ?_
 intro v3 I3 w3 F3 le3 h3 s
 simp only [List.nil_append] at h3
 refine sem_rule (convert 22 9 v3) (some 5) (.string ⟨(textE t).toArray⟩) (by kernel_rfl) (run_rowString s h3) ?_
 refine oKD _ F3 1 [] 0 (fun φ5 => [(2, .string ⟨(textE t).toArray⟩)]) (fun φ5 => []) s (fun φ5 => by kernel_rfl) (by kernel_rfl) ?_
 intro φ5 w5 s
 refine wp_ret ?_
 refine ret_rule (C := []) _ F3 (.string ⟨(textE t).toArray⟩) [] [] s trivial (by kernel_rfl) ?_
 exact ⟨_, _, _, rfl, s, rfl⟩

end Go.Proofs.YtgmigcmhnmmdkaaDoor.Ev

