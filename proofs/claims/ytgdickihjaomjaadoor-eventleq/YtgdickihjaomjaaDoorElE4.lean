/- Event trees as texts. -/
import Derived.Test.YtgdickihjaomjaaDoorElE3
import Derived.Test.YtgdickihjaomjaaDoorElA1
import Derived.Laws.BytesString
set_option linter.all false
set_option maxRecDepth 100000
namespace Go.Proofs.YtgdickihjaomjaaDoor
open Go.RowKit Go.Sep Go.Lib

def textE : E → List UInt8
  | .leaf n => Lib.decDigits n
  | .node n l r => [40] ++ Lib.decDigits n ++ [44] ++ textE l ++ [44] ++ textE r ++ [41]
theorem push_all : ∀ (l : List UInt8) (s : ByteArray), (l.map fun b => ((b.toNat : Nat) : Int)).foldl (fun r n => r.push (UInt8.ofNat n.toNat)) s = ⟨s.data ++ l.toArray⟩
  | [], s => by cases s; simp
  | b :: l, s => by
    simp only [List.map_cons, List.foldl_cons, Int.toNat_natCast]
    rw [push_all l]
    have : UInt8.ofNat b.toNat = b := by simp
    rw [this]
    congr 1
    apply Array.ext'
    simp [ByteArray.push]
theorem run_rowString {w0 : World} {I0 : IM} {m : List Nat} {I : IM} {H F : List OB} {w : World} (s : St w0 I0 m I w (H ++ F)) {v : Value} {n : Nat} {l : List UInt8} (h : RowH 5 1 v n (bcs l) F) : (convert 22 9 v).run Tryd.prog w = .ok (.string ⟨l.toArray⟩) w := by
  have hl : l.length = n := by have := h.1; rw [Lib.byteCells_length] at this; omega
  subst hl
  rcases h.2 with ⟨rfl, hn, hF⟩ | ⟨g, cap, cur, rfl, rfl, hc, hm, hs, ht⟩
  · rw [run_convert_bytes_string w 22 9 5 _ _ _ Tryd.underlying22 Tryd.underlying5 Tryd.underlying9]
    have : l = [] := List.eq_nil_of_length_eq_zero hn
    subst this; rfl
  · have hb : w.heap[g]? = some (.cells cur 5 (0, 0)) := s.own (g, _) (by simp)
    rw [run_convert_bytes_string w 22 9 5 _ _ _ Tryd.underlying22 Tryd.underlying5 Tryd.underlying9]
    have hld : (loadCells ⟨g, 0, none⟩ l.length).run Tryd.prog w = .ok ((l.map fun b => ((b.toNat : Nat) : Int)).map (Value.int .u8)).toArray w := by
      have := run_firstCells_some (P := Tryd.prog) w 1 l.length ⟨g, 0, none⟩ l.length cap (bcs l) (by rw [Lib.byteCells_length]; omega) (fun j u hu => by
        have hadd : (⟨g, 0, none⟩ : Addr).add j = ⟨g, j, none⟩ := by unfold Addr.add; split <;> simp_all
        rw [hadd, run_cell (a := ⟨g, j, none⟩) hb rfl rfl]
        rw [← ht, List.getElem?_take] at hu
        split at hu
        · simpa using hu
        · cases hu)
      simp only [Builtin.firstCells, Nat.mul_one] at this
      rw [this]; simp [Lib.byteCells]
    rw [run_bytesToString w ⟨g, 0, none⟩ l.length cap _ hld, push_all]
    simp

set_option maxHeartbeats 1000000 in
theorem appendText_leaf {m : Nat} {I : IM} {b n : Nat} {p : Option Addr} {v : Value} {xs : List Value} {F : List OB} (hT : Tab I) (h : ERep I (E.leaf m) b p) (hrow : RowH 5 1 v n xs F) (ht : (E.leaf m).top < 18446744073709551616) (hlim : n + (textE (E.leaf m)).length + 20 ≤ 140737488355328) : FunM Tryd.prog 74 #[evv b p, v] I F (fun v' J F' => RowH 5 1 v' (n + (textE (E.leaf m)).length) (xs ++ bcs (textE (E.leaf m))) F') := by
  obtain ⟨rfl, rfl⟩ := h
  have hlim1 : n + (Lib.decDigits b).length + 20 ≤ 140737488355328 := hlim
  have ht1 : b < 18446744073709551616 := ht
  refine enterM_rule 35 [(0, .agg #[.int .u64 ((b : Nat) : Int), .pointer none]), (1, v)] Tryd.func74 rfl (by kernel_rfl) ?_
  intro w s
  refine wp_seq ?_
  refine region_rule ?_
  refine ops_rule (C := []) [] F 2 [] 1 (fun φ1 => [(4, .slice none 0 0), (2, .pointer (some ⟨(φ1 0), 0, none⟩))]) (fun φ1 => [((φ1 0), .cells #[.int .u64 ((b : Nat) : Int), .pointer none] 27)]) (fun φ1 => []) s trivial (fun φ1 => by kernel_rfl) ?_
  intro φ1 w1 s
  refine ops_done (by kernel_rfl) ?_
  refine wp_seq ?_
  refine wp_seq ?_
  refine region_rule ?_
  refine ops_rule (C := []) [((φ1 0), .cells #[.int .u64 ((b : Nat) : Int), .pointer none] 27)] F 1 [.o 0, .o 0] 0 (fun φ2 => [(5, .agg #[.int .u64 ((b : Nat) : Int), .pointer none])]) (fun φ2 => [((φ1 0), .cells #[.int .u64 ((b : Nat) : Int), .pointer none] 27)]) (fun φ2 => [(φ1 0), (φ1 0)]) s trivial (fun φ2 => by kernel_rfl) ?_
  intro φ2 w2 s
  refine call_rule (some 6) s (isLeaf_c (ERep.lf _ b)) (by kernel_rfl) ?_
  intro v3 I3 w3 le3 h3 s
  replace hT := Tab.mono le3 hT
  obtain rfl := h3
  refine ops_done (by kernel_rfl) ?_
  refine cond_true_rule (b := true) (by kernel_rfl) rfl ?_
  refine wp_seq ?_
  refine region_rule ?_
  refine ops_rule (C := []) [((φ1 0), .cells #[.int .u64 ((b : Nat) : Int), .pointer none] 27)] F 3 [.o 0] 0 (fun φ4 => [(9, .int .u64 ((b : Nat) : Int)), (8, .pointer (some ⟨(φ1 0), 0, none⟩)), (7, v)]) (fun φ4 => [((φ1 0), .cells #[.int .u64 ((b : Nat) : Int), .pointer none] 27)]) (fun φ4 => [(φ1 0)]) s trivial (fun φ4 => by kernel_rfl) ?_
  intro φ4 w4 s
  refine callF_rule (H := [((φ1 0), .cells #[.int .u64 ((b : Nat) : Int), .pointer none] 27)]) (F := F) (some 10) s (appendUint_c (u := b) hT (by omega) hrow (by omega)) (by kernel_rfl) ?_
  intro v5 I5 w5 F5 le5 h5 s
  replace hT := Tab.mono le5 hT
  refine ops_rule (C := []) [((φ1 0), .cells #[.int .u64 ((b : Nat) : Int), .pointer none] 27)] F5 1 [] 0 (fun φ6 => [(4, v5)]) (fun φ6 => [((φ1 0), .cells #[.int .u64 ((b : Nat) : Int), .pointer none] 27)]) (fun φ6 => []) s trivial (fun φ6 => by kernel_rfl) ?_
  intro φ6 w6 s
  refine ops_done (by kernel_rfl) ?_
  refine wp_ret ?_
  refine ret_rule (C := []) [((φ1 0), .cells #[.int .u64 ((b : Nat) : Int), .pointer none] 27)] F5 (v5) [] [] s trivial (by kernel_rfl) ?_
  replace s := s.drop (List.sublist_append_right [((φ1 0), .cells #[.int .u64 ((b : Nat) : Int), .pointer none] 27)] F5)
  exact ⟨_, _, _, rfl, s, h5⟩

set_option maxHeartbeats 2000000 in
theorem appendText_node {m : Nat} {l r : E} {I : IM} {b n : Nat} {p : Option Addr} {v : Value} {xs : List Value} {F : List OB} (hT : Tab I) (h : ERep I (E.node m l r) b p) (hrow : RowH 5 1 v n xs F) (ht : (E.node m l r).top < 18446744073709551616) (hlim : n + (textE (E.node m l r)).length + 20 ≤ 140737488355328) (ihl : ∀ {I : IM} {b n : Nat} {p : Option Addr} {v : Value} {xs : List Value} {F : List OB}, Tab I → ERep I l b p → RowH 5 1 v n xs F → n + (textE l).length + 20 ≤ 140737488355328 → FunM Tryd.prog 74 #[evv b p, v] I F (fun v' J F' => RowH 5 1 v' (n + (textE l).length) (xs ++ bcs (textE l)) F')) (ihr : ∀ {I : IM} {b n : Nat} {p : Option Addr} {v : Value} {xs : List Value} {F : List OB}, Tab I → ERep I r b p → RowH 5 1 v n xs F → n + (textE r).length + 20 ≤ 140737488355328 → FunM Tryd.prog 74 #[evv b p, v] I F (fun v' J F' => RowH 5 1 v' (n + (textE r).length) (xs ++ bcs (textE r)) F')) : FunM Tryd.prog 74 #[evv b p, v] I F (fun v' J F' => RowH 5 1 v' (n + (textE (E.node m l r)).length) (xs ++ bcs (textE (E.node m l r))) F') := by
  have hn := h
  obtain ⟨rfl, k, bl, pl, br, pr, rfl, hk, hl, hr⟩ := h
  have hlim1 : n + (Lib.decDigits b).length + (textE l).length + (textE r).length + 4 + 20 ≤ 140737488355328 := by simp only [textE, List.length_append, List.length_cons, List.length_nil] at hlim; omega
  have ht1 : b + max l.top r.top < 18446744073709551616 := ht
  refine enterM_rule 35 [(0, .agg #[.int .u64 ((b : Nat) : Int), .pointer (some ⟨k, 0, none⟩)]), (1, v)] Tryd.func74 rfl (by kernel_rfl) ?_
  intro w s
  refine wp_seq ?_
  refine region_rule ?_
  refine ops_rule (C := []) [] F 2 [] 1 (fun φ1 => [(4, .slice none 0 0), (2, .pointer (some ⟨(φ1 0), 0, none⟩))]) (fun φ1 => [((φ1 0), .cells #[.int .u64 ((b : Nat) : Int), .pointer (some ⟨k, 0, none⟩)] 27)]) (fun φ1 => []) s trivial (fun φ1 => by kernel_rfl) ?_
  intro φ1 w1 s
  refine ops_done (by kernel_rfl) ?_
  refine wp_seq ?_
  refine wp_seq ?_
  refine region_rule ?_
  refine ops_rule (C := []) [((φ1 0), .cells #[.int .u64 ((b : Nat) : Int), .pointer (some ⟨k, 0, none⟩)] 27)] F 1 [.o 0, .o 0] 0 (fun φ2 => [(5, .agg #[.int .u64 ((b : Nat) : Int), .pointer (some ⟨k, 0, none⟩)])]) (fun φ2 => [((φ1 0), .cells #[.int .u64 ((b : Nat) : Int), .pointer (some ⟨k, 0, none⟩)] 27)]) (fun φ2 => [(φ1 0), (φ1 0)]) s trivial (fun φ2 => by kernel_rfl) ?_
  intro φ2 w2 s
  refine call_rule (some 6) s (isLeaf_c hn) (by kernel_rfl) ?_
  intro v3 I3 w3 le3 h3 s
  replace hT := Tab.mono le3 hT
  replace hl := ERep.mono le3 hl
  replace hr := ERep.mono le3 hr
  replace hn := ERep.mono le3 hn
  replace hk := le3 _ _ hk
  obtain rfl := h3
  refine ops_done (by kernel_rfl) ?_
  refine cond_false_rule (b := false) (by kernel_rfl) rfl ?_
  refine wp_skip ?_
  refine wp_seq ?_
  refine region_rule ?_
  refine ops_rule (C := []) [((φ1 0), .cells #[.int .u64 ((b : Nat) : Int), .pointer (some ⟨k, 0, none⟩)] 27)] F 2 [] 1 (fun φ4 => [(12, .slice (some ⟨(φ4 0), 0, none⟩) 1 1), (11, v)]) (fun φ4 => [((φ1 0), .cells #[.int .u64 ((b : Nat) : Int), .pointer (some ⟨k, 0, none⟩)] 27), ((φ4 0), .cells #[.int .u8 40] 5)]) (fun φ4 => []) s trivial (fun φ4 => by kernel_rfl) ?_
  intro φ4 w4 s
  refine append_rule (H := [((φ1 0), .cells #[.int .u64 ((b : Nat) : Int), .pointer (some ⟨k, 0, none⟩)] 27), ((φ4 0), .cells #[.int .u8 40] 5)]) (F := F) 22 22 5 Tryd.t5 (.int .u8 0) 1 1 (some 13) s Tryd.underlying22 (by kernel_rfl) (by kernel_rfl) (by kernel_rfl) (by kernel_rfl) (by kernel_rfl) (by decide) hrow (src_own s 1 (φ4 0) #[.int .u8 40] 5 22 5 1 1 1 [.int .u8 40] (by kernel_rfl) Tryd.underlying22 (by kernel_rfl) (by kernel_rfl) (by kernel_rfl)) (by simp only [maxLen]; omega) (by omega) (by kernel_rfl) ?_
  intro v5 w5 F5 s h5
  refine ops_rule (C := []) [((φ1 0), .cells #[.int .u64 ((b : Nat) : Int), .pointer (some ⟨k, 0, none⟩)] 27), ((φ4 0), .cells #[.int .u8 40] 5)] F5 1 [] 0 (fun φ6 => [(1, v5)]) (fun φ6 => [((φ1 0), .cells #[.int .u64 ((b : Nat) : Int), .pointer (some ⟨k, 0, none⟩)] 27), ((φ4 0), .cells #[.int .u8 40] 5)]) (fun φ6 => []) s trivial (fun φ6 => by kernel_rfl) ?_
  intro φ6 w6 s
  refine ops_done (by kernel_rfl) ?_
  refine wp_seq ?_
  refine region_rule ?_
  refine ops_rule (C := []) [((φ1 0), .cells #[.int .u64 ((b : Nat) : Int), .pointer (some ⟨k, 0, none⟩)] 27), ((φ4 0), .cells #[.int .u8 40] 5)] F5 3 [.o 0] 0 (fun φ7 => [(16, .int .u64 ((b : Nat) : Int)), (15, .pointer (some ⟨(φ1 0), 0, none⟩)), (14, v5)]) (fun φ7 => [((φ1 0), .cells #[.int .u64 ((b : Nat) : Int), .pointer (some ⟨k, 0, none⟩)] 27), ((φ4 0), .cells #[.int .u8 40] 5)]) (fun φ7 => [(φ1 0)]) s trivial (fun φ7 => by kernel_rfl) ?_
  intro φ7 w7 s
  refine callF_rule (H := [((φ1 0), .cells #[.int .u64 ((b : Nat) : Int), .pointer (some ⟨k, 0, none⟩)] 27), ((φ4 0), .cells #[.int .u8 40] 5)]) (F := F5) (some 17) s (appendUint_c (u := b) hT (by omega) h5 (by omega)) (by kernel_rfl) ?_
  intro v8 I8 w8 F8 le8 h8 s
  replace hT := Tab.mono le8 hT
  replace hl := ERep.mono le8 hl
  replace hr := ERep.mono le8 hr
  replace hn := ERep.mono le8 hn
  replace hk := le8 _ _ hk
  refine ops_rule (C := []) [((φ1 0), .cells #[.int .u64 ((b : Nat) : Int), .pointer (some ⟨k, 0, none⟩)] 27), ((φ4 0), .cells #[.int .u8 40] 5)] F8 1 [] 0 (fun φ9 => [(1, v8)]) (fun φ9 => [((φ1 0), .cells #[.int .u64 ((b : Nat) : Int), .pointer (some ⟨k, 0, none⟩)] 27), ((φ4 0), .cells #[.int .u8 40] 5)]) (fun φ9 => []) s trivial (fun φ9 => by kernel_rfl) ?_
  intro φ9 w9 s
  refine ops_done (by kernel_rfl) ?_
  refine wp_seq ?_
  refine region_rule ?_
  refine ops_rule (C := []) [((φ1 0), .cells #[.int .u64 ((b : Nat) : Int), .pointer (some ⟨k, 0, none⟩)] 27), ((φ4 0), .cells #[.int .u8 40] 5)] F8 2 [] 1 (fun φ10 => [(19, .slice (some ⟨(φ10 0), 0, none⟩) 1 1), (18, v8)]) (fun φ10 => [((φ1 0), .cells #[.int .u64 ((b : Nat) : Int), .pointer (some ⟨k, 0, none⟩)] 27), ((φ4 0), .cells #[.int .u8 40] 5), ((φ10 0), .cells #[.int .u8 44] 5)]) (fun φ10 => []) s trivial (fun φ10 => by kernel_rfl) ?_
  intro φ10 w10 s
  refine append_rule (H := [((φ1 0), .cells #[.int .u64 ((b : Nat) : Int), .pointer (some ⟨k, 0, none⟩)] 27), ((φ4 0), .cells #[.int .u8 40] 5), ((φ10 0), .cells #[.int .u8 44] 5)]) (F := F8) 22 22 5 Tryd.t5 (.int .u8 0) 1 1 (some 20) s Tryd.underlying22 (by kernel_rfl) (by kernel_rfl) (by kernel_rfl) (by kernel_rfl) (by kernel_rfl) (by decide) h8 (src_own s 2 (φ10 0) #[.int .u8 44] 5 22 5 1 1 1 [.int .u8 44] (by kernel_rfl) Tryd.underlying22 (by kernel_rfl) (by kernel_rfl) (by kernel_rfl)) (by simp only [maxLen]; omega) (by omega) (by kernel_rfl) ?_
  intro v11 w11 F11 s h11
  refine ops_rule (C := []) [((φ1 0), .cells #[.int .u64 ((b : Nat) : Int), .pointer (some ⟨k, 0, none⟩)] 27), ((φ4 0), .cells #[.int .u8 40] 5), ((φ10 0), .cells #[.int .u8 44] 5)] F11 1 [] 0 (fun φ12 => [(1, v11)]) (fun φ12 => [((φ1 0), .cells #[.int .u64 ((b : Nat) : Int), .pointer (some ⟨k, 0, none⟩)] 27), ((φ4 0), .cells #[.int .u8 40] 5), ((φ10 0), .cells #[.int .u8 44] 5)]) (fun φ12 => []) s trivial (fun φ12 => by kernel_rfl) ?_
  intro φ12 w12 s
  refine ops_done (by kernel_rfl) ?_
  refine wp_seq ?_
  refine region_rule ?_
  refine ops_rule (C := []) [((φ1 0), .cells #[.int .u64 ((b : Nat) : Int), .pointer (some ⟨k, 0, none⟩)] 27), ((φ4 0), .cells #[.int .u8 40] 5), ((φ10 0), .cells #[.int .u8 44] 5)] F11 1 [.o 0, .o 0] 0 (fun φ13 => [(21, .agg #[.int .u64 ((b : Nat) : Int), .pointer (some ⟨k, 0, none⟩)])]) (fun φ13 => [((φ1 0), .cells #[.int .u64 ((b : Nat) : Int), .pointer (some ⟨k, 0, none⟩)] 27), ((φ4 0), .cells #[.int .u8 40] 5), ((φ10 0), .cells #[.int .u8 44] 5)]) (fun φ13 => [(φ1 0), (φ1 0)]) s trivial (fun φ13 => by kernel_rfl) ?_
  intro φ13 w13 s
  refine call_rule (some 22) s (left_c hn) (by kernel_rfl) ?_
  intro v14 I14 w14 le14 h14 s
  replace hT := Tab.mono le14 hT
  replace hl := ERep.mono le14 hl
  replace hr := ERep.mono le14 hr
  replace hn := ERep.mono le14 hn
  replace hk := le14 _ _ hk
  obtain ⟨b14, p14, rfl, h14_0⟩ := h14
  refine ops_rule (C := []) [((φ1 0), .cells #[.int .u64 ((b : Nat) : Int), .pointer (some ⟨k, 0, none⟩)] 27), ((φ4 0), .cells #[.int .u8 40] 5), ((φ10 0), .cells #[.int .u8 44] 5)] F11 1 [] 0 (fun φ15 => [(23, v11)]) (fun φ15 => [((φ1 0), .cells #[.int .u64 ((b : Nat) : Int), .pointer (some ⟨k, 0, none⟩)] 27), ((φ4 0), .cells #[.int .u8 40] 5), ((φ10 0), .cells #[.int .u8 44] 5)]) (fun φ15 => []) s trivial (fun φ15 => by kernel_rfl) ?_
  intro φ15 w15 s
  refine callF_rule (H := [((φ1 0), .cells #[.int .u64 ((b : Nat) : Int), .pointer (some ⟨k, 0, none⟩)] 27), ((φ4 0), .cells #[.int .u8 40] 5), ((φ10 0), .cells #[.int .u8 44] 5)]) (F := F11) (some 24) s (ihl hT h14_0 h11 (by omega)) (by kernel_rfl) ?_
  intro v16 I16 w16 F16 le16 h16 s
  replace hT := Tab.mono le16 hT
  replace hl := ERep.mono le16 hl
  replace hr := ERep.mono le16 hr
  replace hn := ERep.mono le16 hn
  replace h14_0 := ERep.mono le16 h14_0
  replace hk := le16 _ _ hk
  refine ops_rule (C := []) [((φ1 0), .cells #[.int .u64 ((b : Nat) : Int), .pointer (some ⟨k, 0, none⟩)] 27), ((φ4 0), .cells #[.int .u8 40] 5), ((φ10 0), .cells #[.int .u8 44] 5)] F16 1 [] 0 (fun φ17 => [(1, v16)]) (fun φ17 => [((φ1 0), .cells #[.int .u64 ((b : Nat) : Int), .pointer (some ⟨k, 0, none⟩)] 27), ((φ4 0), .cells #[.int .u8 40] 5), ((φ10 0), .cells #[.int .u8 44] 5)]) (fun φ17 => []) s trivial (fun φ17 => by kernel_rfl) ?_
  intro φ17 w17 s
  refine ops_done (by kernel_rfl) ?_
  refine wp_seq ?_
  refine region_rule ?_
  refine ops_rule (C := []) [((φ1 0), .cells #[.int .u64 ((b : Nat) : Int), .pointer (some ⟨k, 0, none⟩)] 27), ((φ4 0), .cells #[.int .u8 40] 5), ((φ10 0), .cells #[.int .u8 44] 5)] F16 2 [] 1 (fun φ18 => [(26, .slice (some ⟨(φ18 0), 0, none⟩) 1 1), (25, v16)]) (fun φ18 => [((φ1 0), .cells #[.int .u64 ((b : Nat) : Int), .pointer (some ⟨k, 0, none⟩)] 27), ((φ4 0), .cells #[.int .u8 40] 5), ((φ10 0), .cells #[.int .u8 44] 5), ((φ18 0), .cells #[.int .u8 44] 5)]) (fun φ18 => []) s trivial (fun φ18 => by kernel_rfl) ?_
  intro φ18 w18 s
  refine append_rule (H := [((φ1 0), .cells #[.int .u64 ((b : Nat) : Int), .pointer (some ⟨k, 0, none⟩)] 27), ((φ4 0), .cells #[.int .u8 40] 5), ((φ10 0), .cells #[.int .u8 44] 5), ((φ18 0), .cells #[.int .u8 44] 5)]) (F := F16) 22 22 5 Tryd.t5 (.int .u8 0) 1 1 (some 27) s Tryd.underlying22 (by kernel_rfl) (by kernel_rfl) (by kernel_rfl) (by kernel_rfl) (by kernel_rfl) (by decide) h16 (src_own s 3 (φ18 0) #[.int .u8 44] 5 22 5 1 1 1 [.int .u8 44] (by kernel_rfl) Tryd.underlying22 (by kernel_rfl) (by kernel_rfl) (by kernel_rfl)) (by simp only [maxLen]; omega) (by omega) (by kernel_rfl) ?_
  intro v19 w19 F19 s h19
  refine ops_rule (C := []) [((φ1 0), .cells #[.int .u64 ((b : Nat) : Int), .pointer (some ⟨k, 0, none⟩)] 27), ((φ4 0), .cells #[.int .u8 40] 5), ((φ10 0), .cells #[.int .u8 44] 5), ((φ18 0), .cells #[.int .u8 44] 5)] F19 1 [] 0 (fun φ20 => [(1, v19)]) (fun φ20 => [((φ1 0), .cells #[.int .u64 ((b : Nat) : Int), .pointer (some ⟨k, 0, none⟩)] 27), ((φ4 0), .cells #[.int .u8 40] 5), ((φ10 0), .cells #[.int .u8 44] 5), ((φ18 0), .cells #[.int .u8 44] 5)]) (fun φ20 => []) s trivial (fun φ20 => by kernel_rfl) ?_
  intro φ20 w20 s
  refine ops_done (by kernel_rfl) ?_
  refine wp_seq ?_
  refine region_rule ?_
  refine ops_rule (C := []) [((φ1 0), .cells #[.int .u64 ((b : Nat) : Int), .pointer (some ⟨k, 0, none⟩)] 27), ((φ4 0), .cells #[.int .u8 40] 5), ((φ10 0), .cells #[.int .u8 44] 5), ((φ18 0), .cells #[.int .u8 44] 5)] F19 1 [.o 0, .o 0] 0 (fun φ21 => [(28, .agg #[.int .u64 ((b : Nat) : Int), .pointer (some ⟨k, 0, none⟩)])]) (fun φ21 => [((φ1 0), .cells #[.int .u64 ((b : Nat) : Int), .pointer (some ⟨k, 0, none⟩)] 27), ((φ4 0), .cells #[.int .u8 40] 5), ((φ10 0), .cells #[.int .u8 44] 5), ((φ18 0), .cells #[.int .u8 44] 5)]) (fun φ21 => [(φ1 0), (φ1 0)]) s trivial (fun φ21 => by kernel_rfl) ?_
  intro φ21 w21 s
  refine call_rule (some 29) s (right_c hn) (by kernel_rfl) ?_
  intro v22 I22 w22 le22 h22 s
  replace hT := Tab.mono le22 hT
  replace hl := ERep.mono le22 hl
  replace hr := ERep.mono le22 hr
  replace hn := ERep.mono le22 hn
  replace h14_0 := ERep.mono le22 h14_0
  replace hk := le22 _ _ hk
  obtain ⟨b22, p22, rfl, h22_0⟩ := h22
  refine ops_rule (C := []) [((φ1 0), .cells #[.int .u64 ((b : Nat) : Int), .pointer (some ⟨k, 0, none⟩)] 27), ((φ4 0), .cells #[.int .u8 40] 5), ((φ10 0), .cells #[.int .u8 44] 5), ((φ18 0), .cells #[.int .u8 44] 5)] F19 1 [] 0 (fun φ23 => [(30, v19)]) (fun φ23 => [((φ1 0), .cells #[.int .u64 ((b : Nat) : Int), .pointer (some ⟨k, 0, none⟩)] 27), ((φ4 0), .cells #[.int .u8 40] 5), ((φ10 0), .cells #[.int .u8 44] 5), ((φ18 0), .cells #[.int .u8 44] 5)]) (fun φ23 => []) s trivial (fun φ23 => by kernel_rfl) ?_
  intro φ23 w23 s
  refine callF_rule (H := [((φ1 0), .cells #[.int .u64 ((b : Nat) : Int), .pointer (some ⟨k, 0, none⟩)] 27), ((φ4 0), .cells #[.int .u8 40] 5), ((φ10 0), .cells #[.int .u8 44] 5), ((φ18 0), .cells #[.int .u8 44] 5)]) (F := F19) (some 31) s (ihr hT h22_0 h19 (by omega)) (by kernel_rfl) ?_
  intro v24 I24 w24 F24 le24 h24 s
  replace hT := Tab.mono le24 hT
  replace hl := ERep.mono le24 hl
  replace hr := ERep.mono le24 hr
  replace hn := ERep.mono le24 hn
  replace h14_0 := ERep.mono le24 h14_0
  replace h22_0 := ERep.mono le24 h22_0
  replace hk := le24 _ _ hk
  refine ops_rule (C := []) [((φ1 0), .cells #[.int .u64 ((b : Nat) : Int), .pointer (some ⟨k, 0, none⟩)] 27), ((φ4 0), .cells #[.int .u8 40] 5), ((φ10 0), .cells #[.int .u8 44] 5), ((φ18 0), .cells #[.int .u8 44] 5)] F24 1 [] 0 (fun φ25 => [(1, v24)]) (fun φ25 => [((φ1 0), .cells #[.int .u64 ((b : Nat) : Int), .pointer (some ⟨k, 0, none⟩)] 27), ((φ4 0), .cells #[.int .u8 40] 5), ((φ10 0), .cells #[.int .u8 44] 5), ((φ18 0), .cells #[.int .u8 44] 5)]) (fun φ25 => []) s trivial (fun φ25 => by kernel_rfl) ?_
  intro φ25 w25 s
  refine ops_done (by kernel_rfl) ?_
  refine wp_seq ?_
  refine region_rule ?_
  refine ops_rule (C := []) [((φ1 0), .cells #[.int .u64 ((b : Nat) : Int), .pointer (some ⟨k, 0, none⟩)] 27), ((φ4 0), .cells #[.int .u8 40] 5), ((φ10 0), .cells #[.int .u8 44] 5), ((φ18 0), .cells #[.int .u8 44] 5)] F24 2 [] 1 (fun φ26 => [(33, .slice (some ⟨(φ26 0), 0, none⟩) 1 1), (32, v24)]) (fun φ26 => [((φ1 0), .cells #[.int .u64 ((b : Nat) : Int), .pointer (some ⟨k, 0, none⟩)] 27), ((φ4 0), .cells #[.int .u8 40] 5), ((φ10 0), .cells #[.int .u8 44] 5), ((φ18 0), .cells #[.int .u8 44] 5), ((φ26 0), .cells #[.int .u8 41] 5)]) (fun φ26 => []) s trivial (fun φ26 => by kernel_rfl) ?_
  intro φ26 w26 s
  refine append_rule (H := [((φ1 0), .cells #[.int .u64 ((b : Nat) : Int), .pointer (some ⟨k, 0, none⟩)] 27), ((φ4 0), .cells #[.int .u8 40] 5), ((φ10 0), .cells #[.int .u8 44] 5), ((φ18 0), .cells #[.int .u8 44] 5), ((φ26 0), .cells #[.int .u8 41] 5)]) (F := F24) 22 22 5 Tryd.t5 (.int .u8 0) 1 1 (some 34) s Tryd.underlying22 (by kernel_rfl) (by kernel_rfl) (by kernel_rfl) (by kernel_rfl) (by kernel_rfl) (by decide) h24 (src_own s 4 (φ26 0) #[.int .u8 41] 5 22 5 1 1 1 [.int .u8 41] (by kernel_rfl) Tryd.underlying22 (by kernel_rfl) (by kernel_rfl) (by kernel_rfl)) (by simp only [maxLen]; omega) (by omega) (by kernel_rfl) ?_
  intro v27 w27 F27 s h27
  refine ops_rule (C := []) [((φ1 0), .cells #[.int .u64 ((b : Nat) : Int), .pointer (some ⟨k, 0, none⟩)] 27), ((φ4 0), .cells #[.int .u8 40] 5), ((φ10 0), .cells #[.int .u8 44] 5), ((φ18 0), .cells #[.int .u8 44] 5), ((φ26 0), .cells #[.int .u8 41] 5)] F27 1 [] 0 (fun φ28 => [(4, v27)]) (fun φ28 => [((φ1 0), .cells #[.int .u64 ((b : Nat) : Int), .pointer (some ⟨k, 0, none⟩)] 27), ((φ4 0), .cells #[.int .u8 40] 5), ((φ10 0), .cells #[.int .u8 44] 5), ((φ18 0), .cells #[.int .u8 44] 5), ((φ26 0), .cells #[.int .u8 41] 5)]) (fun φ28 => []) s trivial (fun φ28 => by kernel_rfl) ?_
  intro φ28 w28 s
  refine ops_done (by kernel_rfl) ?_
  refine wp_ret ?_
  refine ret_rule (C := []) [((φ1 0), .cells #[.int .u64 ((b : Nat) : Int), .pointer (some ⟨k, 0, none⟩)] 27), ((φ4 0), .cells #[.int .u8 40] 5), ((φ10 0), .cells #[.int .u8 44] 5), ((φ18 0), .cells #[.int .u8 44] 5), ((φ26 0), .cells #[.int .u8 41] 5)] F27 (v27) [] [] s trivial (by kernel_rfl) ?_
  replace s := s.drop (List.sublist_append_right [((φ1 0), .cells #[.int .u64 ((b : Nat) : Int), .pointer (some ⟨k, 0, none⟩)] 27), ((φ4 0), .cells #[.int .u8 40] 5), ((φ10 0), .cells #[.int .u8 44] 5), ((φ18 0), .cells #[.int .u8 44] 5), ((φ26 0), .cells #[.int .u8 41] 5)] F27)
  exact ⟨_, _, _, rfl, s, (by have e := h27; simp only [textE, Lib.byteCells_append, List.append_assoc, List.length_append, Nat.add_assoc, List.length_cons, List.length_nil, Nat.zero_add] at e ⊢; exact e)⟩

theorem appendText_c : ∀ (t : E) {I : IM} {b n : Nat} {p : Option Addr} {v : Value} {xs : List Value} {F : List OB}, t.top < 18446744073709551616 → Tab I → ERep I t b p → RowH 5 1 v n xs F → n + (textE t).length + 20 ≤ 140737488355328 →
    FunM Tryd.prog 74 #[evv b p, v] I F (fun v' J F' => RowH 5 1 v' (n + (textE t).length) (xs ++ bcs (textE t)) F')
  | .leaf m, _, _, _, _, _, _, _, ht, hT, h, hrow, hlim => appendText_leaf hT h hrow ht hlim
  | .node m l r, _, _, _, _, _, _, _, ht, hT, h, hrow, hlim => by
    have ht1 : m + max l.top r.top < 18446744073709551616 := ht
    exact appendText_node hT h hrow ht hlim (appendText_c l (by omega)) (appendText_c r (by omega))

set_option maxHeartbeats 1000000 in
theorem text_c {I : IM} {t : E} {b : Nat} {p : Option Addr} (hT : Tab I) (h : ERep I t b p) (ht : t.top < 18446744073709551616) (hlim : (textE t).length ≤ 1000000000) : Fun Tryd.prog 25 #[evv b p] I (fun v J => v = .string ⟨(textE t).toArray⟩) := by
  refine enter_rule 6 [(0, .agg #[.int .u64 ((b : Nat) : Int), .pointer p])] Tryd.func25 rfl (by kernel_rfl) ?_
  intro w s
  refine wp_seq ?_
  refine region_rule ?_
  refine ops_rule (C := []) [] [] 2 [] 1 (fun φ1 => [(2, .string ⟨#[]⟩), (1, .pointer (some ⟨(φ1 0), 0, none⟩))]) (fun φ1 => [((φ1 0), .cells #[.int .u64 ((b : Nat) : Int), .pointer p] 27)]) (fun φ1 => []) s trivial (fun φ1 => by kernel_rfl) ?_
  intro φ1 w1 s
  refine ops_done (by kernel_rfl) ?_
  refine wp_seq ?_
  refine region_rule ?_
  refine ops_rule (C := []) [((φ1 0), .cells #[.int .u64 ((b : Nat) : Int), .pointer p] 27)] [] 1 [.o 0, .o 0] 0 (fun φ2 => [(3, .agg #[.int .u64 ((b : Nat) : Int), .pointer p])]) (fun φ2 => [((φ1 0), .cells #[.int .u64 ((b : Nat) : Int), .pointer p] 27)]) (fun φ2 => [(φ1 0), (φ1 0)]) s trivial (fun φ2 => by kernel_rfl) ?_
  intro φ2 w2 s
  refine callF_rule (H := [((φ1 0), .cells #[.int .u64 ((b : Nat) : Int), .pointer p] 27)]) (F := []) (some 4) s (appendText_c t ht hT h (RowH.nil 5 1) (by omega)) (by kernel_rfl) ?_
  intro v3 I3 w3 F3 le3 h3 s
  replace hT := Tab.mono le3 hT
  replace h := ERep.mono le3 h
  simp only [List.nil_append] at h3
  refine sem_rule (convert 22 9 v3) (some 5) (.string ⟨(textE t).toArray⟩) (by kernel_rfl) (run_rowString s h3) ?_
  refine ops_rule (C := []) [((φ1 0), .cells #[.int .u64 ((b : Nat) : Int), .pointer p] 27)] F3 1 [] 0 (fun φ5 => [(2, .string ⟨(textE t).toArray⟩)]) (fun φ5 => [((φ1 0), .cells #[.int .u64 ((b : Nat) : Int), .pointer p] 27)]) (fun φ5 => []) s trivial (fun φ5 => by kernel_rfl) ?_
  intro φ5 w5 s
  refine ops_done (by kernel_rfl) ?_
  refine wp_ret ?_
  refine ret_rule (C := []) [((φ1 0), .cells #[.int .u64 ((b : Nat) : Int), .pointer p] 27)] F3 (.string ⟨(textE t).toArray⟩) [] [] s trivial (by kernel_rfl) ?_
  exact ⟨_, _, _, rfl, s, rfl⟩

end Go.Proofs.YtgdickihjaomjaaDoor
