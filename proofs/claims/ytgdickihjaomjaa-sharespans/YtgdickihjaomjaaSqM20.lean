/- share: the spans of an id are appended -/
import Derived.Test.YtgdickihjaomjaaSqM17
import Derived.Test.YtgdickihjaomjaaSqM19
set_option linter.all false
set_option maxRecDepth 100000
namespace Go.Proofs.Ytgdickihjaomjaa.Ev
open Go.RowKit Go.Sep
attribute [local irreducible] Go.wpList Go.Code.wp

set_option maxHeartbeats 1000000 in
theorem sp_zero {I : IM} {b : Bool} {p : Option Addr} {n a k : Nat} {xs : List Value} {v0 : Value} {F : List OB} (h : TRep I .zero b p) (hrow : RowH 35 1 v0 n xs F) (hlim : n + cntT .zero ≤ 100000) (ha : a + 2 ^ k ≤ 65536) : FunM Try.prog 32 #[v0, idv b p, .float .f64 (dF a), .float .f64 (dF (2 ^ k))] I F (fun v J F' => RowH 35 1 v (n + cntT .zero) (xs ++ cxs (spT .zero a k)) F') := by
  obtain ⟨rfl, rfl⟩ := h
  have hlim1 : n ≤ 100000 := by omega
  refine enterM_rule 37 [(0, v0), (1, .agg #[.bool false, .pointer none]), (2, .float .f64 (dF a)), (3, .float .f64 (dF (2 ^ k)))] Try.func32 rfl (by kernel_rfl) ?_
  intro w s
  refine wp_seq ?_
  refine region_rule ?_
  refine ops_rule (C := []) [] F 2 [] 1 (fun φ1 => [(8, .slice none 0 0), (5, .pointer (some ⟨(φ1 0), 0, none⟩))]) (fun φ1 => [((φ1 0), .cells #[.bool false, .pointer none] 26)]) (fun φ1 => []) s trivial (fun φ1 => by kernel_rfl) ?_
  intro φ1 w1 s
  refine ops_done (by kernel_rfl) ?_
  refine wp_seq ?_
  refine wp_seq ?_
  refine region_rule ?_
  refine ops_rule (C := []) [((φ1 0), .cells #[.bool false, .pointer none] 26)] F 1 [.o 0, .o 0] 0 (fun φ2 => [(10, .agg #[.bool false, .pointer none])]) (fun φ2 => [((φ1 0), .cells #[.bool false, .pointer none] 26)]) (fun φ2 => [(φ1 0), (φ1 0)]) s trivial (fun φ2 => by kernel_rfl) ?_
  intro φ2 w2 s
  refine call_rule (some 11) s (isZero_c (TRep.z _)) (by kernel_rfl) ?_
  intro v3 I3 w3 le3 h3 s
  obtain rfl := h3
  refine ops_done (by kernel_rfl) ?_
  refine cond_true_rule (b := true) (by kernel_rfl) rfl ?_
  refine wp_seq ?_
  refine region_rule ?_
  refine ops_rule (C := []) [((φ1 0), .cells #[.bool false, .pointer none] 26)] F 2 [] 0 (fun φ4 => [(8, v0), (12, v0)]) (fun φ4 => [((φ1 0), .cells #[.bool false, .pointer none] 26)]) (fun φ4 => []) s trivial (fun φ4 => by kernel_rfl) ?_
  intro φ4 w4 s
  refine ops_done (by kernel_rfl) ?_
  refine wp_ret ?_
  refine ret_rule (C := []) [((φ1 0), .cells #[.bool false, .pointer none] 26)] F (v0) [] [] s trivial (by kernel_rfl) ?_
  replace s := s.drop (List.sublist_append_right [((φ1 0), .cells #[.bool false, .pointer none] 26)] F)
  exact ⟨_, _, _, rfl, s, (by have e := hrow; simp only [spT, cntT, cxs_append, cxs, List.map_append, List.map_nil, List.map_cons, List.append_nil, List.append_assoc, Nat.add_assoc, Nat.add_zero, Nat.add_sub_cancel] at e ⊢; exact e)⟩

set_option maxHeartbeats 1000000 in
theorem sp_one {I : IM} {b : Bool} {p : Option Addr} {n a k : Nat} {xs : List Value} {v0 : Value} {F : List OB} (h : TRep I .one b p) (hrow : RowH 35 1 v0 n xs F) (hlim : n + cntT .one ≤ 100000) (ha : a + 2 ^ k ≤ 65536) : FunM Try.prog 32 #[v0, idv b p, .float .f64 (dF a), .float .f64 (dF (2 ^ k))] I F (fun v J F' => RowH 35 1 v (n + cntT .one) (xs ++ cxs (spT .one a k)) F') := by
  obtain ⟨rfl, rfl⟩ := h
  have hlim1 : n ≤ 100000 := by omega
  refine enterM_rule 37 [(0, v0), (1, .agg #[.bool true, .pointer none]), (2, .float .f64 (dF a)), (3, .float .f64 (dF (2 ^ k)))] Try.func32 rfl (by kernel_rfl) ?_
  intro w s
  refine wp_seq ?_
  refine region_rule ?_
  refine ops_rule (C := []) [] F 2 [] 1 (fun φ1 => [(8, .slice none 0 0), (5, .pointer (some ⟨(φ1 0), 0, none⟩))]) (fun φ1 => [((φ1 0), .cells #[.bool true, .pointer none] 26)]) (fun φ1 => []) s trivial (fun φ1 => by kernel_rfl) ?_
  intro φ1 w1 s
  refine ops_done (by kernel_rfl) ?_
  refine wp_seq ?_
  refine wp_seq ?_
  refine region_rule ?_
  refine ops_rule (C := []) [((φ1 0), .cells #[.bool true, .pointer none] 26)] F 1 [.o 0, .o 0] 0 (fun φ2 => [(10, .agg #[.bool true, .pointer none])]) (fun φ2 => [((φ1 0), .cells #[.bool true, .pointer none] 26)]) (fun φ2 => [(φ1 0), (φ1 0)]) s trivial (fun φ2 => by kernel_rfl) ?_
  intro φ2 w2 s
  refine call_rule (some 11) s (isZero_c (TRep.o _)) (by kernel_rfl) ?_
  intro v3 I3 w3 le3 h3 s
  obtain rfl := h3
  refine ops_done (by kernel_rfl) ?_
  refine cond_false_rule (b := false) (by kernel_rfl) rfl ?_
  refine wp_skip ?_
  refine wp_seq ?_
  refine wp_seq ?_
  refine region_rule ?_
  refine ops_rule (C := []) [((φ1 0), .cells #[.bool true, .pointer none] 26)] F 1 [.o 0, .o 0] 0 (fun φ4 => [(13, .agg #[.bool true, .pointer none])]) (fun φ4 => [((φ1 0), .cells #[.bool true, .pointer none] 26)]) (fun φ4 => [(φ1 0), (φ1 0)]) s trivial (fun φ4 => by kernel_rfl) ?_
  intro φ4 w4 s
  refine call_rule (some 14) s (isOne_c (TRep.o _)) (by kernel_rfl) ?_
  intro v5 I5 w5 le5 h5 s
  obtain rfl := h5
  refine ops_done (by kernel_rfl) ?_
  refine cond_true_rule (b := true) (by kernel_rfl) rfl ?_
  refine wp_seq ?_
  refine region_rule ?_
  refine ops_rule (C := []) [((φ1 0), .cells #[.bool true, .pointer none] 26)] F 3 [] 0 (fun φ6 => [(17, .float .f64 (dF (2 ^ k))), (16, .float .f64 (dF a)), (15, v0)]) (fun φ6 => [((φ1 0), .cells #[.bool true, .pointer none] 26)]) (fun φ6 => []) s trivial (fun φ6 => by kernel_rfl) ?_
  intro φ6 w6 s
  refine sem_rule (Builtin.complex_ #[37, 37] 35 #[.float .f64 (dF a), .float .f64 (dF (2 ^ k))]) (some 18) (.complex .f64 (dF a) (dF (2 ^ k))) (by kernel_rfl) ((by kernel_rfl : ((Builtin.complex_ #[37, 37] 35 #[.float .f64 (dF a), .float .f64 (dF (2 ^ k))]) : Sem Value).run Try.prog w6 = .ok (.complex .f64 (dF a) (dF (2 ^ k))) w6)) ?_
  refine ops_rule (C := []) [((φ1 0), .cells #[.bool true, .pointer none] 26)] F 1 [] 1 (fun φ7 => [(19, .slice (some ⟨(φ7 0), 0, none⟩) 1 1)]) (fun φ7 => [((φ1 0), .cells #[.bool true, .pointer none] 26), ((φ7 0), .cells #[.complex .f64 (dF a) (dF (2 ^ k))] 35)]) (fun φ7 => []) s trivial (fun φ7 => by kernel_rfl) ?_
  intro φ7 w7 s
  refine append_rule (H := [((φ1 0), .cells #[.bool true, .pointer none] 26), ((φ7 0), .cells #[.complex .f64 (dF a) (dF (2 ^ k))] 35)]) (F := F) 30 30 35 Try.t35 (.complex .f64 0 0) 1 16 (some 20) s Try.underlying30 (by kernel_rfl) (by kernel_rfl) (by kernel_rfl) (by kernel_rfl) (by kernel_rfl) (by decide) hrow (src_own s 1 (φ7 0) #[.complex .f64 (dF a) (dF (2 ^ k))] 35 30 35 1 1 1 [.complex .f64 (dF a) (dF (2 ^ k))] (by kernel_rfl) Try.underlying30 (by kernel_rfl) (by kernel_rfl) (by kernel_rfl)) (by simp only [maxLen]; omega) (by omega) (by kernel_rfl) ?_
  intro v8 w8 F8 s h8
  refine ops_rule (C := []) [((φ1 0), .cells #[.bool true, .pointer none] 26), ((φ7 0), .cells #[.complex .f64 (dF a) (dF (2 ^ k))] 35)] F8 1 [] 0 (fun φ9 => [(8, v8)]) (fun φ9 => [((φ1 0), .cells #[.bool true, .pointer none] 26), ((φ7 0), .cells #[.complex .f64 (dF a) (dF (2 ^ k))] 35)]) (fun φ9 => []) s trivial (fun φ9 => by kernel_rfl) ?_
  intro φ9 w9 s
  refine ops_done (by kernel_rfl) ?_
  refine wp_ret ?_
  refine ret_rule (C := []) [((φ1 0), .cells #[.bool true, .pointer none] 26), ((φ7 0), .cells #[.complex .f64 (dF a) (dF (2 ^ k))] 35)] F8 (v8) [] [] s trivial (by kernel_rfl) ?_
  replace s := s.drop (List.sublist_append_right [((φ1 0), .cells #[.bool true, .pointer none] 26), ((φ7 0), .cells #[.complex .f64 (dF a) (dF (2 ^ k))] 35)] F8)
  exact ⟨_, _, _, rfl, s, (by have e := h8; simp only [spT, cntT, cxs_append, cxs, List.map_append, List.map_nil, List.map_cons, List.append_nil, List.append_assoc, Nat.add_assoc, Nat.add_zero, Nat.add_sub_cancel] at e ⊢; exact e)⟩

set_option maxHeartbeats 2000000 in
theorem sp_node {l r : T} {I : IM} {b : Bool} {p : Option Addr} {n a k : Nat} {xs : List Value} {v0 : Value} {F : List OB} (h : TRep I (.node l r) b p) (hrow : RowH 35 1 v0 n xs F) (hlim : n + cntT (.node l r) ≤ 100000) (ha : a + 2 * 2 ^ k ≤ 65536) (ihl : ∀ {I : IM} {b : Bool} {p : Option Addr} {n : Nat} {v0 : Value} {xs : List Value} {F : List OB}, TRep I l b p → RowH 35 1 v0 n xs F → n + cntT l ≤ 100000 → FunM Try.prog 32 #[v0, idv b p, .float .f64 (dF a), .float .f64 (dF (2 ^ k))] I F (fun v J F' => RowH 35 1 v (n + cntT l) (xs ++ cxs (spT l a k)) F')) (ihr : ∀ {I : IM} {b : Bool} {p : Option Addr} {n : Nat} {v0 : Value} {xs : List Value} {F : List OB}, TRep I r b p → RowH 35 1 v0 n xs F → n + cntT r ≤ 100000 → FunM Try.prog 32 #[v0, idv b p, .float .f64 (dF (a + 2 ^ k)), .float .f64 (dF (2 ^ k))] I F (fun v J F' => RowH 35 1 v (n + cntT r) (xs ++ cxs (spT r (a + 2 ^ k) k)) F')) : FunM Try.prog 32 #[v0, idv b p, .float .f64 (dF a), .float .f64 (dF (2 * 2 ^ k))] I F (fun v J F' => RowH 35 1 v (n + cntT (.node l r)) (xs ++ cxs (spT (.node l r) a (k + 1))) F') := by
  have hn := h
  obtain ⟨rfl, k9, bl, pl, br, pr, rfl, hk, hl, hr⟩ := h
  have hlim1 : n + cntT l + cntT r ≤ 100000 := by simp only [cntT] at hlim; omega
  refine enterM_rule 37 [(0, v0), (1, .agg #[.bool false, .pointer (some ⟨k9, 0, none⟩)]), (2, .float .f64 (dF a)), (3, .float .f64 (dF (2 * 2 ^ k)))] Try.func32 rfl (by kernel_rfl) ?_
  intro w s
  refine wp_seq ?_
  refine region_rule ?_
  refine ops_rule (C := []) [] F 2 [] 1 (fun φ1 => [(8, .slice none 0 0), (5, .pointer (some ⟨(φ1 0), 0, none⟩))]) (fun φ1 => [((φ1 0), .cells #[.bool false, .pointer (some ⟨k9, 0, none⟩)] 26)]) (fun φ1 => []) s trivial (fun φ1 => by kernel_rfl) ?_
  intro φ1 w1 s
  refine ops_done (by kernel_rfl) ?_
  refine wp_seq ?_
  refine wp_seq ?_
  refine region_rule ?_
  refine ops_rule (C := []) [((φ1 0), .cells #[.bool false, .pointer (some ⟨k9, 0, none⟩)] 26)] F 1 [.o 0, .o 0] 0 (fun φ2 => [(10, .agg #[.bool false, .pointer (some ⟨k9, 0, none⟩)])]) (fun φ2 => [((φ1 0), .cells #[.bool false, .pointer (some ⟨k9, 0, none⟩)] 26)]) (fun φ2 => [(φ1 0), (φ1 0)]) s trivial (fun φ2 => by kernel_rfl) ?_
  intro φ2 w2 s
  refine call_rule (some 11) s (isZero_c hn) (by kernel_rfl) ?_
  intro v3 I3 w3 le3 h3 s
  replace hl := TRep.mono le3 hl
  replace hr := TRep.mono le3 hr
  replace hn := TRep.mono le3 hn
  replace hk := le3 _ _ hk
  obtain rfl := h3
  refine ops_done (by kernel_rfl) ?_
  refine cond_false_rule (b := false) (by kernel_rfl) rfl ?_
  refine wp_skip ?_
  refine wp_seq ?_
  refine wp_seq ?_
  refine region_rule ?_
  refine ops_rule (C := []) [((φ1 0), .cells #[.bool false, .pointer (some ⟨k9, 0, none⟩)] 26)] F 1 [.o 0, .o 0] 0 (fun φ4 => [(13, .agg #[.bool false, .pointer (some ⟨k9, 0, none⟩)])]) (fun φ4 => [((φ1 0), .cells #[.bool false, .pointer (some ⟨k9, 0, none⟩)] 26)]) (fun φ4 => [(φ1 0), (φ1 0)]) s trivial (fun φ4 => by kernel_rfl) ?_
  intro φ4 w4 s
  refine call_rule (some 14) s (isOne_c hn) (by kernel_rfl) ?_
  intro v5 I5 w5 le5 h5 s
  replace hl := TRep.mono le5 hl
  replace hr := TRep.mono le5 hr
  replace hn := TRep.mono le5 hn
  replace hk := le5 _ _ hk
  obtain rfl := h5
  refine ops_done (by kernel_rfl) ?_
  refine cond_false_rule (b := false) (by kernel_rfl) rfl ?_
  refine wp_skip ?_
  refine wp_seq ?_
  refine region_rule ?_
  refine ops_rule (C := []) [((φ1 0), .cells #[.bool false, .pointer (some ⟨k9, 0, none⟩)] 26)] F 1 [] 0 (fun φ6 => [(21, .float .f64 (dF (2 * 2 ^ k)))]) (fun φ6 => [((φ1 0), .cells #[.bool false, .pointer (some ⟨k9, 0, none⟩)] 26)]) (fun φ6 => []) s trivial (fun φ6 => by kernel_rfl) ?_
  intro φ6 w6 s
  refine sem_rule (binOp .quo 37 (.float .f64 (dF (2 * 2 ^ k))) (.float .f64 4611686018427387904)) (some 22) (.float .f64 (dF (2 ^ k))) (by kernel_rfl) (run_halfF (by   omega)) ?_
  refine ops_rule (C := []) [((φ1 0), .cells #[.bool false, .pointer (some ⟨k9, 0, none⟩)] 26)] F 1 [] 0 (fun φ7 => [(9, .float .f64 (dF (2 ^ k)))]) (fun φ7 => [((φ1 0), .cells #[.bool false, .pointer (some ⟨k9, 0, none⟩)] 26)]) (fun φ7 => []) s trivial (fun φ7 => by kernel_rfl) ?_
  intro φ7 w7 s
  refine ops_done (by kernel_rfl) ?_
  refine wp_seq ?_
  refine region_rule ?_
  refine ops_rule (C := []) [((φ1 0), .cells #[.bool false, .pointer (some ⟨k9, 0, none⟩)] 26)] F 2 [.o 0, .o 0] 0 (fun φ8 => [(24, .agg #[.bool false, .pointer (some ⟨k9, 0, none⟩)]), (23, v0)]) (fun φ8 => [((φ1 0), .cells #[.bool false, .pointer (some ⟨k9, 0, none⟩)] 26)]) (fun φ8 => [(φ1 0), (φ1 0)]) s trivial (fun φ8 => by kernel_rfl) ?_
  intro φ8 w8 s
  refine call_rule (some 25) s (tleft_c hn) (by kernel_rfl) ?_
  intro v9 I9 w9 le9 h9 s
  replace hl := TRep.mono le9 hl
  replace hr := TRep.mono le9 hr
  replace hn := TRep.mono le9 hn
  replace hk := le9 _ _ hk
  obtain ⟨b9, p9, rfl, h9_0⟩ := h9
  refine ops_rule (C := []) [((φ1 0), .cells #[.bool false, .pointer (some ⟨k9, 0, none⟩)] 26)] F 2 [] 0 (fun φ10 => [(27, .float .f64 (dF (2 ^ k))), (26, .float .f64 (dF a))]) (fun φ10 => [((φ1 0), .cells #[.bool false, .pointer (some ⟨k9, 0, none⟩)] 26)]) (fun φ10 => []) s trivial (fun φ10 => by kernel_rfl) ?_
  intro φ10 w10 s
  refine callF_rule (H := [((φ1 0), .cells #[.bool false, .pointer (some ⟨k9, 0, none⟩)] 26)]) (F := F) (some 28) s (ihl h9_0 hrow (by omega)) (by kernel_rfl) ?_
  intro v11 I11 w11 F11 le11 h11 s
  replace hl := TRep.mono le11 hl
  replace hr := TRep.mono le11 hr
  replace hn := TRep.mono le11 hn
  replace h9_0 := TRep.mono le11 h9_0
  replace hk := le11 _ _ hk
  refine ops_rule (C := []) [((φ1 0), .cells #[.bool false, .pointer (some ⟨k9, 0, none⟩)] 26)] F11 1 [] 0 (fun φ12 => [(0, v11)]) (fun φ12 => [((φ1 0), .cells #[.bool false, .pointer (some ⟨k9, 0, none⟩)] 26)]) (fun φ12 => []) s trivial (fun φ12 => by kernel_rfl) ?_
  intro φ12 w12 s
  refine ops_done (by kernel_rfl) ?_
  refine wp_seq ?_
  refine region_rule ?_
  refine ops_rule (C := []) [((φ1 0), .cells #[.bool false, .pointer (some ⟨k9, 0, none⟩)] 26)] F11 2 [.o 0, .o 0] 0 (fun φ13 => [(30, .agg #[.bool false, .pointer (some ⟨k9, 0, none⟩)]), (29, v11)]) (fun φ13 => [((φ1 0), .cells #[.bool false, .pointer (some ⟨k9, 0, none⟩)] 26)]) (fun φ13 => [(φ1 0), (φ1 0)]) s trivial (fun φ13 => by kernel_rfl) ?_
  intro φ13 w13 s
  refine call_rule (some 31) s (tright_c hn) (by kernel_rfl) ?_
  intro v14 I14 w14 le14 h14 s
  replace hl := TRep.mono le14 hl
  replace hr := TRep.mono le14 hr
  replace hn := TRep.mono le14 hn
  replace h9_0 := TRep.mono le14 h9_0
  replace hk := le14 _ _ hk
  obtain ⟨b14, p14, rfl, h14_0⟩ := h14
  refine ops_rule (C := []) [((φ1 0), .cells #[.bool false, .pointer (some ⟨k9, 0, none⟩)] 26)] F11 2 [] 0 (fun φ15 => [(33, .float .f64 (dF (2 ^ k))), (32, .float .f64 (dF a))]) (fun φ15 => [((φ1 0), .cells #[.bool false, .pointer (some ⟨k9, 0, none⟩)] 26)]) (fun φ15 => []) s trivial (fun φ15 => by kernel_rfl) ?_
  intro φ15 w15 s
  refine sem_rule (binOp .add 37 (.float .f64 (dF a)) (.float .f64 (dF (2 ^ k)))) (some 34) (.float .f64 (dF (a + (2 ^ k)))) (by kernel_rfl) (run_addF (by   omega)) ?_
  refine ops_rule (C := []) [((φ1 0), .cells #[.bool false, .pointer (some ⟨k9, 0, none⟩)] 26)] F11 1 [] 0 (fun φ16 => [(35, .float .f64 (dF (2 ^ k)))]) (fun φ16 => [((φ1 0), .cells #[.bool false, .pointer (some ⟨k9, 0, none⟩)] 26)]) (fun φ16 => []) s trivial (fun φ16 => by kernel_rfl) ?_
  intro φ16 w16 s
  refine callF_rule (H := [((φ1 0), .cells #[.bool false, .pointer (some ⟨k9, 0, none⟩)] 26)]) (F := F11) (some 36) s (ihr h14_0 h11 (by omega)) (by kernel_rfl) ?_
  intro v17 I17 w17 F17 le17 h17 s
  replace hl := TRep.mono le17 hl
  replace hr := TRep.mono le17 hr
  replace hn := TRep.mono le17 hn
  replace h9_0 := TRep.mono le17 h9_0
  replace h14_0 := TRep.mono le17 h14_0
  replace hk := le17 _ _ hk
  refine ops_rule (C := []) [((φ1 0), .cells #[.bool false, .pointer (some ⟨k9, 0, none⟩)] 26)] F17 1 [] 0 (fun φ18 => [(8, v17)]) (fun φ18 => [((φ1 0), .cells #[.bool false, .pointer (some ⟨k9, 0, none⟩)] 26)]) (fun φ18 => []) s trivial (fun φ18 => by kernel_rfl) ?_
  intro φ18 w18 s
  refine ops_done (by kernel_rfl) ?_
  refine wp_ret ?_
  refine ret_rule (C := []) [((φ1 0), .cells #[.bool false, .pointer (some ⟨k9, 0, none⟩)] 26)] F17 (v17) [] [] s trivial (by kernel_rfl) ?_
  replace s := s.drop (List.sublist_append_right [((φ1 0), .cells #[.bool false, .pointer (some ⟨k9, 0, none⟩)] 26)] F17)
  exact ⟨_, _, _, rfl, s, (by have e := h17; simp only [spT, cntT, cxs_append, cxs, List.map_append, List.map_nil, List.map_cons, List.append_nil, List.append_assoc, Nat.add_assoc, Nat.add_zero, Nat.add_sub_cancel] at e ⊢; exact e)⟩

theorem sp_c : ∀ (t : T) {I : IM} {b : Bool} {p : Option Addr} {n a k : Nat} {xs : List Value} {v0 : Value} {F : List OB}, TRep I t b p → RowH 35 1 v0 n xs F → n + cntT t ≤ 100000 → t.depth ≤ k → a + 2 ^ k ≤ 65536 →
    FunM Try.prog 32 #[v0, idv b p, .float .f64 (dF a), .float .f64 (dF (2 ^ k))] I F (fun v J F' => RowH 35 1 v (n + cntT t) (xs ++ cxs (spT t a k)) F')
  | .zero, _, _, _, _, _, _, _, _, _, h, hrow, hlim, hd, ha => sp_zero h hrow hlim ha
  | .one, _, _, _, _, _, _, _, _, _, h, hrow, hlim, hd, ha => sp_one h hrow hlim ha
  | .node l r, _, _, _, _, a, 0, _, _, _, h, hrow, hlim, hd, ha => by simp only [T.depth] at hd; omega
  | .node l r, _, _, _, _, a, k + 1, _, _, _, h, hrow, hlim, hd, ha => by
    simp only [T.depth] at hd
    rw [Nat.pow_succ'] at ha ⊢
    exact sp_node h hrow hlim ha (fun h1 h2 h3 => sp_c l h1 h2 h3 (by omega) (by omega)) (fun h1 h2 h3 => sp_c r h1 h2 h3 (by omega) (by omega))

end Go.Proofs.Ytgdickihjaomjaa.Ev
/- share: what two have in common, spans, measures -/
set_option linter.all false
set_option maxRecDepth 100000
namespace Go.Proofs.Ytgdickihjaomjaa.Ev
open Go.RowKit Go.Sep
attribute [local irreducible] Go.wpList Go.Code.wp
theorem leMono {I J K : IM} (le : I.Le J) (h : IM.Le K I) : IM.Le K J := h.trans le
def pAt (a : Option Addr) (i : Nat) : Option Addr := a.map fun x => x.add i
theorem pAt_g (g i : Nat) : pAt (some ⟨g, 0, none⟩) i = some ⟨g, i, none⟩ := congrArg some (addr_add g i)
theorem row_slice {e : TypeId} {size n : Nat} {v : Value} {xs : List Value} {F : List OB} (h : RowH e size v n xs F) : ∃ a c, v = .slice a n c := by
  rcases h.2 with ⟨rfl, rfl, _⟩ | ⟨g, cap, cur, rfl, _⟩
  · exact ⟨_, _, rfl⟩
  · exact ⟨_, _, rfl⟩
theorem row_at {e : TypeId} {size n c : Nat} {a : Option Addr} {xs : List Value} {F : List OB} (h : RowH e size (.slice a n c) n xs F) (hn : 0 < n) : ∃ g, a = some ⟨g, 0, none⟩ := by
  obtain ⟨g, cap, hv⟩ := row_some h hn
  cases hv; exact ⟨g, rfl⟩
theorem row_idx35 {w : World} {a : Option Addr} {n c i : Nat} {xs : List Value} {F : List OB} (h : RowH 35 1 (.slice a n c) n xs F) (hi : i < n) : (Instr.indexAt 30 (.slice a n c) (.int .i64 ((i : Nat) : Int))).run Try.prog w = .ok (.pointer (pAt a i)) w := by
  obtain ⟨g, rfl⟩ := row_at h (by omega)
  rw [run_idx30 hi, pAt_g]
theorem row_ld35 {w0 : World} {I0 : IM} {m : List Nat} {I : IM} {H F : List OB} {w : World} (s : St w0 I0 m I w (H ++ F)) {a : Option Addr} {n c i : Nat} {xs : List Value} {x : Value} (h : RowH 35 1 (.slice a n c) n xs F) (hi : i < n) (hx : xs[i]? = some x) :
    (Instr.loadAt 35 (.pointer (pAt a i))).run Try.prog w = .ok x w := by
  obtain ⟨g, rfl⟩ := row_at h (by omega)
  rw [pAt_g]
  exact run_load35 (row_cell s h hx)
theorem cxs_at {L : List (Nat × Nat)} {i : Nat} (h : i < L.length) : (cxs L)[i]? = some (.complex .f64 (dF (L.getD i (0, 0)).1) (dF (L.getD i (0, 0)).2)) := by
  rw [cxs, List.getElem?_map]; simp [h]
theorem run_mkC1 {w : World} {t1 t2 t3 : TypeId} {a : Nat} : (Builtin.complex_ #[t1, t2] t3 #[.float .f64 (dF a), .float .f64 4607182418800017408]).run Try.prog w = .ok (.complex .f64 (dF a) (dF 65536)) w := by rw [dF_one]; rfl
theorem sumW_take {L : List (Nat × Nat)} {i : Nat} (h : i < L.length) : sumW (L.take (i + 1)) = sumW (L.take i) + (L.getD i (0, 0)).2 := by
  have e : L.take (i + 1) = L.take i ++ [L.getD i (0, 0)] := by
    rw [List.take_add_one]; simp [h]
  rw [e, sumW_append]; simp [sumW]
theorem sumW_take_le (L : List (Nat × Nat)) (i : Nat) : sumW (L.take i) ≤ sumW L := by
  have := sumW_append (L.take i) (L.drop i)
  rw [List.take_append_drop] at this; omega
theorem sumW_getD_le (L : List (Nat × Nat)) (i : Nat) : (L.getD i (0, 0)).2 ≤ sumW L := by
  by_cases h : i < L.length
  · have h1 := sumW_take h
    have h2 := sumW_take_le L (i + 1)
    omega
  · simp [List.getD_eq_getElem?_getD, List.getElem?_eq_none (Nat.le_of_not_lt h)]

theorem sp0_c (t : T) {I : IM} {b : Bool} {p : Option Addr} (h : TRep I t b p) (hc : cntT t ≤ 100000) (hd : t.depth ≤ 16) : FunM Try.prog 32 #[.slice none 0 0, idv b p, .float .f64 0, .float .f64 4607182418800017408] I [] (fun v J F' => RowH 35 1 v (cntT t) (cxs (spT t 0 16)) F') := by
  have e := sp_c t (a := 0) (k := 16) h (RowH.nil 35 1) (by omega) hd (by decide)
  rw [dF_zero, show dF (2 ^ 16) = 4607182418800017408 from dF_one] at e
  simpa only [Nat.zero_add, List.nil_append] using e

set_option maxHeartbeats 1000000 in
theorem spans_c {I : IM} {t : T} {b : Bool} {p : Option Addr} (h : TRep I t b p) (hc : cntT t ≤ 100000) (hd : t.depth ≤ 16) : FunM Try.prog 10 #[idv b p] I [] (fun v J F' => RowH 35 1 v (cntT t) (cxs (spT t 0 16)) F') := by
  refine enterM_rule 5 [(0, .agg #[.bool b, .pointer p])] Try.func10 rfl (by kernel_rfl) ?_
  intro w s
  refine wp_seq ?_
  refine region_rule ?_
  refine ops_rule (C := []) [] [] 2 [] 1 (fun φ1 => [(2, .slice none 0 0), (1, .pointer (some ⟨(φ1 0), 0, none⟩))]) (fun φ1 => [((φ1 0), .cells #[.bool b, .pointer p] 26)]) (fun φ1 => []) s trivial (fun φ1 => by kernel_rfl) ?_
  intro φ1 w1 s
  refine ops_done (by kernel_rfl) ?_
  refine wp_seq ?_
  refine region_rule ?_
  refine ops_rule (C := []) [((φ1 0), .cells #[.bool b, .pointer p] 26)] [] 1 [.o 0, .o 0] 0 (fun φ2 => [(3, .agg #[.bool b, .pointer p])]) (fun φ2 => [((φ1 0), .cells #[.bool b, .pointer p] 26)]) (fun φ2 => [(φ1 0), (φ1 0)]) s trivial (fun φ2 => by kernel_rfl) ?_
  intro φ2 w2 s
  refine callF_rule (H := [((φ1 0), .cells #[.bool b, .pointer p] 26)]) (F := []) (some 4) s (sp0_c t h (by omega) (by omega)) (by kernel_rfl) ?_
  intro v3 I3 w3 F3 le3 h3 s
  replace h := TRep.mono le3 h
  refine ops_rule (C := []) [((φ1 0), .cells #[.bool b, .pointer p] 26)] F3 1 [] 0 (fun φ4 => [(2, v3)]) (fun φ4 => [((φ1 0), .cells #[.bool b, .pointer p] 26)]) (fun φ4 => []) s trivial (fun φ4 => by kernel_rfl) ?_
  intro φ4 w4 s
  refine ops_done (by kernel_rfl) ?_
  refine wp_ret ?_
  refine ret_rule (C := []) [((φ1 0), .cells #[.bool b, .pointer p] 26)] F3 (v3) [] [] s trivial (by kernel_rfl) ?_
  replace s := s.drop (List.sublist_append_right [((φ1 0), .cells #[.bool b, .pointer p] 26)] F3)
  exact ⟨_, _, _, rfl, s, h3⟩

set_option maxHeartbeats 1000000 in
theorem measure_c {I : IM} {t : T} {b : Bool} {p : Option Addr} (h : TRep I t b p) (hc : cntT t ≤ 100000) (hd : t.depth ≤ 16) : Fun Try.prog 16 #[idv b p] I (fun v J => v = .complex .f64 (dF (widT t 16)) (dF (cntT t * 65536))) := by
  refine enter_rule 20 [(0, .agg #[.bool b, .pointer p])] Try.func16 rfl (by kernel_rfl) ?_
  intro w s
  refine wp_seq ?_
  refine region_rule ?_
  refine ops_rule (C := []) [] [] 2 [] 1 (fun φ1 => [(2, .complex .f64 0 0), (1, .pointer (some ⟨(φ1 0), 0, none⟩))]) (fun φ1 => [((φ1 0), .cells #[.bool b, .pointer p] 26)]) (fun φ1 => []) s trivial (fun φ1 => by kernel_rfl) ?_
  intro φ1 w1 s
  refine ops_done (by kernel_rfl) ?_
  refine wp_seq ?_
  refine region_rule ?_
  refine ops_rule (C := []) [((φ1 0), .cells #[.bool b, .pointer p] 26)] [] 1 [] 0 (fun φ2 => [(3, .complex .f64 0 0)]) (fun φ2 => [((φ1 0), .cells #[.bool b, .pointer p] 26)]) (fun φ2 => []) s trivial (fun φ2 => by kernel_rfl) ?_
  intro φ2 w2 s
  refine ops_done (by kernel_rfl) ?_
  refine wp_seq ?_
  refine wp_seq ?_
  refine region_rule ?_
  refine ops_rule (C := []) [((φ1 0), .cells #[.bool b, .pointer p] 26)] [] 1 [.o 0, .o 0] 0 (fun φ3 => [(6, .agg #[.bool b, .pointer p])]) (fun φ3 => [((φ1 0), .cells #[.bool b, .pointer p] 26)]) (fun φ3 => [(φ1 0), (φ1 0)]) s trivial (fun φ3 => by kernel_rfl) ?_
  intro φ3 w3 s
  refine callF_rule (H := [((φ1 0), .cells #[.bool b, .pointer p] 26)]) (F := []) (some 7) s (spans_c h (by omega) (by omega)) (by kernel_rfl) ?_
  intro v4 I4 w4 F4 le4 h4 s
  obtain ⟨a4, c4, rfl⟩ := row_slice h4
  replace h := TRep.mono le4 h
  refine ops_rule (C := []) [((φ1 0), .cells #[.bool b, .pointer p] 26)] F4 2 [] 0 (fun φ5 => [(9, .int .i64 0), (8, .int .i64 (((cntT t) : Nat) : Int))]) (fun φ5 => [((φ1 0), .cells #[.bool b, .pointer p] 26)]) (fun φ5 => []) s trivial (fun φ5 => by kernel_rfl) ?_
  intro φ5 w5 s
  refine ops_done (by kernel_rfl) ?_
  refine wp_block ?_
  have hL6 : (spT t 0 16).length = cntT t := spT_length t 0 16
  have hW6 := sumW_spT t 0 16
  have hD6 := wid_le 16 hd
  rw [show (2 : Nat) ^ 16 = 65536 from by decide] at hD6
  have h06 : (0 : Nat) = dF 0 := dF_zero.symm
  rw [show (Value.complex .f64 0 0) = .complex .f64 (dF 0) (dF 0) from by rw [dF_zero]]
  have hle7 := IM.Le.refl I4
  refine loop_rule (fun (x : Nat × Nat × Nat) => [(0, .agg #[.bool b, .pointer p]), (1, .pointer (some ⟨(φ1 0), 0, none⟩)), (2, .complex .f64 0 0), (6, .agg #[.bool b, .pointer p]), (7, .slice a4 (cntT t) c4), (8, .int .i64 (((cntT t) : Nat) : Int)), (9, .int .i64 ((x.1 : Nat) : Int)), (3, .complex .f64 (dF x.2.1) (dF x.2.2))]) (fun (x : Nat × Nat × Nat) => [((φ1 0), .cells #[.bool b, .pointer p] 26)] ++ F4) (fun m (x : Nat × Nat × Nat) J => IM.Le I4 J ∧ x.1 + m = cntT t ∧ x.2.1 = sumW ((spT t 0 16).take x.1) ∧ x.2.2 = x.1 * 65536) (cntT t) (0, 0, 0) s (by kernel_rfl) (List.Sublist.refl _) ⟨IM.Le.refl _, Nat.zero_add _, rfl, rfl⟩ ?_
  rintro m8 ⟨i8, a8, q8⟩ I8 w8 ev8 s ⟨le8, hi8_0, hi8_1, hi8_2⟩
  try dsimp only at s hi8_0 hi8_1 hi8_2 ⊢
  replace h := TRep.mono le8 h
  replace hle7 := leMono le8 hle7
  have hs6 := sumW_take_le (spT t 0 16) i8
  have hg6 := sumW_getD_le (spT t 0 16) i8
  refine wp_seq ?_
  refine region_rule ?_
  refine ops_rule (C := []) [((φ1 0), .cells #[.bool b, .pointer p] 26)] F4 1 [] 0 (fun φ9 => [(10, .bool (decide (((i8 : Nat) : Int) < (((cntT t) : Nat) : Int))))]) (fun φ9 => [((φ1 0), .cells #[.bool b, .pointer p] 26)]) (fun φ9 => []) s trivial (fun φ9 => by kernel_rfl) ?_
  intro φ9 w9 s
  rw [nat_lss (a := i8) (b := (cntT t))]
  refine ops_done (by kernel_rfl) ?_
  refine wp_seq ?_
  rcases Bool.eq_false_or_eq_true (decide (i8 < (cntT t))) with hc10 | hc10
  ·
    rw [hc10]
    refine cond_true_rule (b := true) (by kernel_rfl) rfl ?_
    refine wp_skip ?_
    refine wp_seq ?_
    refine wp_block ?_
    refine wp_seq ?_
    refine region_rule ?_
    refine sem_rule (Instr.indexAt 30 (.slice a4 (cntT t) c4) (.int .i64 ((i8 : Nat) : Int))) (some 11) (.pointer (pAt a4 i8)) (by kernel_rfl) (row_idx35 h4 (by have hq0 := of_decide_eq_true hc10; have hL := hL6; have hW := hW6; have hD := hD6; have e1 := hi8_0; have e2 := hi8_1; have e3 := hi8_2; have e4 := hs6; have e5 := hg6; omega)) ?_
    refine sem_rule (Instr.loadAt 35 (.pointer (pAt a4 i8))) (some 12) (.complex .f64 (dF ((List.getD (spT t 0 16) i8 (0, 0)).1)) (dF ((List.getD (spT t 0 16) i8 (0, 0)).2))) (by kernel_rfl) (row_ld35 (H := [((φ1 0), .cells #[.bool b, .pointer p] 26)]) (F := F4) s h4 (by have hq0 := of_decide_eq_true hc10; have hL := hL6; have hW := hW6; have hD := hD6; have e1 := hi8_0; have e2 := hi8_1; have e3 := hi8_2; have e4 := hs6; have e5 := hg6; omega) (cxs_at (by have hq0 := of_decide_eq_true hc10; have hL := hL6; have hW := hW6; have hD := hD6; have e1 := hi8_0; have e2 := hi8_1; have e3 := hi8_2; have e4 := hs6; have e5 := hg6; omega))) ?_
    refine ops_rule (C := []) [((φ1 0), .cells #[.bool b, .pointer p] 26)] F4 1 [] 0 (fun φ11 => [(5, .complex .f64 (dF ((List.getD (spT t 0 16) i8 (0, 0)).1)) (dF ((List.getD (spT t 0 16) i8 (0, 0)).2)))]) (fun φ11 => [((φ1 0), .cells #[.bool b, .pointer p] 26)]) (fun φ11 => []) s trivial (fun φ11 => by kernel_rfl) ?_
    intro φ11 w11 s
    refine ops_done (by kernel_rfl) ?_
    refine region_rule ?_
    refine ops_rule (C := []) [((φ1 0), .cells #[.bool b, .pointer p] 26)] F4 2 [] 0 (fun φ12 => [(14, .complex .f64 (dF ((List.getD (spT t 0 16) i8 (0, 0)).1)) (dF ((List.getD (spT t 0 16) i8 (0, 0)).2))), (13, .complex .f64 (dF a8) (dF q8))]) (fun φ12 => [((φ1 0), .cells #[.bool b, .pointer p] 26)]) (fun φ12 => []) s trivial (fun φ12 => by kernel_rfl) ?_
    intro φ12 w12 s
    refine sem_rule (Builtin.imag_ #[35] 37 #[.complex .f64 (dF ((List.getD (spT t 0 16) i8 (0, 0)).1)) (dF ((List.getD (spT t 0 16) i8 (0, 0)).2))]) (some 15) (.float .f64 (dF ((List.getD (spT t 0 16) i8 (0, 0)).2))) (by kernel_rfl) ((by kernel_rfl : ((Builtin.imag_ #[35] 37 #[.complex .f64 (dF ((List.getD (spT t 0 16) i8 (0, 0)).1)) (dF ((List.getD (spT t 0 16) i8 (0, 0)).2))]) : Sem Value).run Try.prog w12 = .ok (.float .f64 (dF ((List.getD (spT t 0 16) i8 (0, 0)).2))) w12)) ?_
    refine sem_rule (Builtin.complex_ #[37, 37] 35 #[.float .f64 (dF ((List.getD (spT t 0 16) i8 (0, 0)).2)), .float .f64 4607182418800017408]) (some 16) (.complex .f64 (dF ((List.getD (spT t 0 16) i8 (0, 0)).2)) (dF 65536)) (by kernel_rfl) ((run_mkC1)) ?_
    refine sem_rule (binOp .add 35 (.complex .f64 (dF a8) (dF q8)) (.complex .f64 (dF ((List.getD (spT t 0 16) i8 (0, 0)).2)) (dF 65536))) (some 17) (.complex .f64 (dF (a8 + ((List.getD (spT t 0 16) i8 (0, 0)).2))) (dF (q8 + 65536))) (by kernel_rfl) (run_addC (by have hq0 := of_decide_eq_true hc10; have hL := hL6; have hW := hW6; have hD := hD6; have e1 := hi8_0; have e2 := hi8_1; have e3 := hi8_2; have e4 := hs6; have e5 := hg6; omega) (by have hq0 := of_decide_eq_true hc10; have hL := hL6; have hW := hW6; have hD := hD6; have e1 := hi8_0; have e2 := hi8_1; have e3 := hi8_2; have e4 := hs6; have e5 := hg6; omega)) ?_
    refine ops_rule (C := []) [((φ1 0), .cells #[.bool b, .pointer p] 26)] F4 1 [] 0 (fun φ13 => [(3, .complex .f64 (dF (a8 + ((List.getD (spT t 0 16) i8 (0, 0)).2))) (dF (q8 + 65536)))]) (fun φ13 => [((φ1 0), .cells #[.bool b, .pointer p] 26)]) (fun φ13 => []) s trivial (fun φ13 => by kernel_rfl) ?_
    intro φ13 w13 s
    refine ops_done (by kernel_rfl) ?_
    refine region_rule ?_
    refine ops_rule (C := []) [((φ1 0), .cells #[.bool b, .pointer p] 26)] F4 2 [] 0 (fun φ14 => [(9, .int .i64 (IntKind.wrap .i64 (((i8 : Nat) : Int) + ((1 : Nat) : Int)))), (18, .int .i64 (IntKind.wrap .i64 (((i8 : Nat) : Int) + ((1 : Nat) : Int))))]) (fun φ14 => [((φ1 0), .cells #[.bool b, .pointer p] 26)]) (fun φ14 => []) s trivial (fun φ14 => by kernel_rfl) ?_
    intro φ14 w14 s
    rw [nat_addI (a := i8) (b := 1) (by have hq0 := of_decide_eq_true hc10; have hL := hL6; have hW := hW6; have hD := hD6; have e1 := hi8_0; have e2 := hi8_1; have e3 := hi8_2; have e4 := hs6; have e5 := hg6; omega)]
    refine ops_done (by kernel_rfl) ?_
    exact ⟨⟨m8 - 1, (i8 + 1, a8 + (List.getD (spT t 0 16) i8 (0, 0)).2, q8 + 65536), _, _, _, by have hq0 := of_decide_eq_true hc10; have := hi8_0; omega, rfl, s, (List.Sublist.append (List.Sublist.cons₂ _ List.Sublist.slnil) (List.Sublist.refl _)), by kernel_rfl, hle7, by have hq0 := of_decide_eq_true hc10; have := hi8_0; show i8 + 1 + (m8 - 1) = cntT t; omega, by have hq0 := of_decide_eq_true hc10; have h1 := hi8_1; show a8 + (List.getD (spT t 0 16) i8 (0, 0)).2 = _; rw [sumW_take (by omega), h1], by have := hi8_2; show q8 + 65536 = (i8 + 1) * 65536; omega⟩⟩
  ·
    rw [hc10]
    refine cond_false_rule (b := false) (by kernel_rfl) rfl ?_
    refine wp_exit ?_
    refine wp_seq ?_
    refine region_rule ?_
    refine ops_rule (C := []) [((φ1 0), .cells #[.bool b, .pointer p] 26)] F4 2 [] 0 (fun φ15 => [(2, .complex .f64 (dF a8) (dF q8)), (19, .complex .f64 (dF a8) (dF q8))]) (fun φ15 => [((φ1 0), .cells #[.bool b, .pointer p] 26)]) (fun φ15 => []) s trivial (fun φ15 => by kernel_rfl) ?_
    intro φ15 w15 s
    refine ops_done (by kernel_rfl) ?_
    refine wp_ret ?_
    refine ret_rule (C := []) [((φ1 0), .cells #[.bool b, .pointer p] 26)] F4 (.complex .f64 (dF a8) (dF q8)) [] [] s trivial (by kernel_rfl) ?_
    exact ⟨_, _, _, rfl, s, (by have hL := hL6; have hW := hW6; have hD := hD6; have e1 := hi8_0; have e2 := hi8_1; have e3 := hi8_2; have e4 := hs6; have e5 := hg6; have hq0 := of_decide_eq_false hc10; have ei : i8 = cntT t := (by omega); rw [e2, e3, ei, ← hL, List.take_length, hW])⟩

end Go.Proofs.Ytgdickihjaomjaa.Ev
/- share: the document: what two have in common, spans -/
set_option linter.all false
set_option maxRecDepth 100000
namespace Go.Proofs.Ytgdickihjaomjaa.Ev
open Go.RowKit Go.Sep
attribute [local irreducible] Go.wpList Go.Code.wp
theorem addr_addO (b o k : Nat) : (⟨b, o, none⟩ : Addr).add k = ⟨b, o + k, none⟩ := by unfold Addr.add; split <;> simp_all
/-- spans as the document's program holds them -/
def sps (l : List (Nat × Nat)) : List Value := l.flatMap fun s => [.int .u64 ((s.1 : Nat) : Int), .int .u64 ((s.2 : Nat) : Int)]
theorem sps_append (l m : List (Nat × Nat)) : sps (l ++ m) = sps l ++ sps m := List.flatMap_append
theorem sps_length : ∀ l : List (Nat × Nat), (sps l).length = l.length * 2
  | [] => rfl
  | s :: l => by
    have := sps_length l
    have e : sps (s :: l) = [.int .u64 ((s.1 : Nat) : Int), .int .u64 ((s.2 : Nat) : Int)] ++ sps l := rfl
    rw [e, List.length_append, this]; simp only [List.length_cons, List.length_nil]; omega
theorem sps_at : ∀ {L : List (Nat × Nat)} {i : Nat}, i < L.length → (sps L)[i * 2]? = some (.int .u64 (((L.getD i (0, 0)).1 : Nat) : Int)) ∧ (sps L)[i * 2 + 1]? = some (.int .u64 (((L.getD i (0, 0)).2 : Nat) : Int))
  | [], _, h => by cases h
  | s :: L, 0, _ => ⟨rfl, rfl⟩
  | s :: L, i + 1, h => by
    have := sps_at (L := L) (i := i) (by simpa using h)
    have e : sps (s :: L) = [.int .u64 ((s.1 : Nat) : Int), .int .u64 ((s.2 : Nat) : Int)] ++ sps L := rfl
    rw [e, List.getElem?_append_right (by simp only [List.length_cons, List.length_nil]; omega), List.getElem?_append_right (by simp only [List.length_cons, List.length_nil]; omega)]
    simp only [List.length_cons, List.length_nil, List.getD_cons_succ]
    rw [show (i + 1) * 2 - (0 + 1 + 1) = i * 2 by omega, show (i + 1) * 2 + 1 - (0 + 1 + 1) = i * 2 + 1 by omega]
    exact this
theorem sps_one : ∀ (L : List (Nat × Nat)) (u : Value), u ∈ sps L → u.oneCell' = true
  | [], _, h => by cases h
  | s :: L, u, h => by
    have e : sps (s :: L) = [.int .u64 ((s.1 : Nat) : Int), .int .u64 ((s.2 : Nat) : Int)] ++ sps L := rfl
    rw [e, List.mem_append] at h
    rcases h with h | h
    · simp only [List.mem_cons, List.not_mem_nil, or_false] at h
      rcases h with rfl | rfl <;> rfl
    · exact sps_one L u h
/-- v is a slice of these spans, never written -/
def SpS (I : IM) (L : List (Nat × Nat)) (v : Value) : Prop := ∃ a cap, v = .slice a L.length cap ∧ L.length ≤ cap ∧ ∀ (j : Nat) (x : Value), (sps L)[j]? = some x → ∃ (b : Nat) (cs : Array Value) (T : TypeId) (fr : Nat × Nat), a = some ⟨b, 0, none⟩ ∧ I b = some (.cells cs T fr) ∧ cs[j]? = some x
theorem SpS.mono {I J : IM} (le : I.Le J) {L : List (Nat × Nat)} {v : Value} (h : SpS I L v) : SpS J L v := by
  obtain ⟨a, cap, hv, hc, hr⟩ := h
  refine ⟨a, cap, hv, hc, fun j x hj => ?_⟩
  obtain ⟨b, cs, T, fr, h1, h2, h3⟩ := hr j x hj
  exact ⟨b, cs, T, fr, h1, le _ _ h2, h3⟩
theorem under32 : Try.prog.underlying 32 = some (.slice 39) := by kernel_rfl
theorem size39 (w : World) : (sizeOf 39).run Try.prog w = .ok 2 w := by kernel_rfl
theorem sps_idx {I : IM} {w : World} {L : List (Nat × Nat)} {a : Option Addr} {n c i : Nat} (h : SpS I L (.slice a n c)) (hi : i < L.length) :
    (Instr.indexAt 32 (.slice a n c) (.int .i64 ((i : Nat) : Int))).run Try.prog w = .ok (.pointer (pAt a (i * 2))) w := by
  obtain ⟨a', c', hv, hc, hr⟩ := h
  cases hv
  obtain ⟨b, cs, T, fr, rfl, h2, h3⟩ := hr _ _ (sps_at hi).1
  have h2 : (i : Int) < (L.length : Int) := by omega
  simp [Instr.indexAt, asIntOf, run_underlying under32, size39, h2, pAt]
  intro h3; omega
theorem SpS.cap {I : IM} {L : List (Nat × Nat)} {a : Option Addr} {n c : Nat} (h : SpS I L (.slice a n c)) : n = L.length ∧ L.length ≤ c := by
  obtain ⟨a', c', hv, hc, _⟩ := h
  cases hv; exact ⟨rfl, hc⟩
theorem src_sps {I : IM} {w : World} (hs : I.Sub w) {L : List (Nat × Nat)} {a : Option Addr} {n c : Nat} (h : SpS I L (.slice a n c)) : Src Try.prog 2 32 (.slice a n c) L.length (sps L) w := by
  obtain ⟨a', c', hv, hc, hr⟩ := h
  cases hv
  cases L with
  | nil =>
    cases a with
    | none => exact Src.ofNil w under32 c
    | some x => exact Src.ofSlice w under32 x 0 c [] rfl (fun j u hu => by simp at hu) (fun u hu => by simp at hu)
  | cons y L =>
    obtain ⟨b, cs, T, fr, rfl, _, _⟩ := hr 0 _ rfl
    refine Src.ofSlice w under32 ⟨b, 0, none⟩ _ c _ (sps_length _) (fun j u hu => ?_) (fun u hu => sps_one _ u hu)
    obtain ⟨b', cs', T', fr', e1, e2, e3⟩ := hr j u hu
    cases e1
    rw [addr_addO, run_cell (a := ⟨b, 0 + j, none⟩) (hs _ _ e2) rfl rfl]
    show cs'[0 + j]? = _
    rw [Nat.zero_add]; exact e3
theorem freeze_rowS {w0 : World} {I0 : IM} {m : List Nat} {I : IM} {w : World} {H F : List OB} {L : List (Nat × Nat)} {v : Value} {n : Nat} (s : St w0 I0 m I w (H ++ F)) (h : RowH 39 2 v n (sps L) F) :
    ∃ I', I.Le I' ∧ SpS I' L v ∧ St w0 I0 m I' w H := by
  have hl : L.length = n := by have := h.1; rw [sps_length] at this; omega
  rcases h.2 with ⟨rfl, rfl, rfl⟩ | ⟨g, cap, cur, rfl, rfl, hnc, hcm, hcs, ht⟩
  · have : L = [] := List.eq_nil_of_length_eq_zero hl
    subst this
    exact ⟨I, IM.Le.refl I, ⟨none, 0, rfl, Nat.le_refl _, fun j x h => by cases h⟩, by simpa using s⟩
  · have s2 := (s.perm (H' := (g, .cells cur 39) :: H) (by exact List.perm_append_comm))
    refine ⟨_, IM.le_add (s2.free (g, .cells cur 39) (by simp)) _, ?_, s2.freeze⟩
    refine ⟨some ⟨g, 0, none⟩, cap, congrArg (fun q => Value.slice (some ⟨g, 0, none⟩) q cap) hl.symm, by omega, fun j x hj => ⟨g, cur, 39, (0, 0), rfl, IM.add_self _ _ _, ?_⟩⟩
    rw [← ht, List.getElem?_take] at hj
    split at hj
    · simpa using hj
    · cases hj
def spR (L : List (Nat × Nat)) (v : Value) (J : IM) : Prop := ∃ a c, v = .slice a (List.length L) c ∧ SpS J L (.slice a (List.length L) c)
theorem fun_of_rowS {f : FuncId} {args : Array Value} {I : IM} {n : Nat} {L : List (Nat × Nat)} (h : FunM Try.prog f args I [] (fun v J F => RowH 39 2 v n (sps L) F)) :
    Fun Try.prog f args I (fun v J => spR L v J) := by
  intro w hw
  refine (h w hw (Owns.nil I w)).mono ?_
  rintro en w' ⟨v, I', H', he, s, hr⟩
  obtain ⟨J, le, hb, s2⟩ := freeze_rowS (H := []) s hr
  obtain ⟨a, c, rfl, hc, hb⟩ := hb
  exact ⟨_, J, [], he, s2, a, c, rfl, ⟨a, c, rfl, hc, hb⟩⟩
theorem run_half64 {w : World} {n : Nat} (h : 2 * n < 18446744073709551616) : (binOp .quo 34 (.int .u64 ((2 * n : Nat) : Int)) (.int .u64 2)).run Try.prog w = .ok (.int .u64 ((n : Nat) : Int)) w := by
  have e : (binOp .quo 34 (.int .u64 ((2 * n : Nat) : Int)) (.int .u64 2)).run Try.prog w = .ok (.int .u64 (IntKind.wrap .u64 (Int.tdiv ((2 * n : Nat) : Int) 2))) w := by kernel_rfl
  rw [e]
  have e1 : Int.tdiv ((2 * n : Nat) : Int) 2 = (n : Int) := by rw [Int.tdiv_eq_ediv_of_nonneg (by omega)]; omega
  have e2 : IntKind.wrap .u64 (n : Int) = (n : Int) := by simp only [IntKind.wrap, IntKind.signed, IntKind.bits]; simp; omega
  rw [e1, e2]
theorem run_add64 {w : World} {a b : Nat} (h : a + b < 18446744073709551616) : (binOp .add 34 (.int .u64 ((a : Nat) : Int)) (.int .u64 ((b : Nat) : Int))).run Try.prog w = .ok (.int .u64 ((a + b : Nat) : Int)) w := by
  have e : (binOp .add 34 (.int .u64 ((a : Nat) : Int)) (.int .u64 ((b : Nat) : Int))).run Try.prog w = .ok (.int .u64 (IntKind.wrap .u64 ((a : Int) + (b : Int)))) w := by kernel_rfl
  rw [e]
  have e2 : IntKind.wrap .u64 ((a : Int) + (b : Int)) = ((a + b : Nat) : Int) := by simp only [IntKind.wrap, IntKind.signed, IntKind.bits]; simp; omega
  rw [e2]
theorem row_one39 (g a k : Nat) : RowH 39 2 (.slice (some ⟨g, 0, none⟩) 1 1) 1 (sps [(a, k)]) [(g, .cells #[.int .u64 ((a : Nat) : Int), .int .u64 ((k : Nat) : Int)] 39)] :=
  ⟨rfl, .inr ⟨g, 1, _, rfl, rfl, Nat.le_refl _, by decide, rfl, rfl⟩⟩

set_option maxHeartbeats 2000000 in
theorem rs_zero {I : IM} {q a k : Nat} (h : RT I T.zero q) (hc : cntT T.zero ≤ 100000) (ha : a + 2 ^ k ≤ 65536) : FunM Try.prog 11 #[.pointer (some ⟨q, 0, none⟩), .int .u64 ((a : Nat) : Int), .int .u64 ((2 ^ k : Nat) : Int)] I [] (fun v J F' => RowH 39 2 v (cntT T.zero) (sps (spT T.zero a k)) F') := by
  have hz : RT _ T.zero q := h
  refine enterM_rule 41 [(0, .pointer (some ⟨q, 0, none⟩)), (1, .int .u64 ((a : Nat) : Int)), (2, .int .u64 ((2 ^ k : Nat) : Int))] Try.func11 rfl (by kernel_rfl) ?_
  intro w s
  refine wp_seq ?_
  refine region_rule ?_
  refine ops_rule (C := []) [] [] 1 [] 0 (fun φ1 => [(6, .slice none 0 0)]) (fun φ1 => []) (fun φ1 => []) s trivial (fun φ1 => by kernel_rfl) ?_
  intro φ1 w1 s
  refine ops_done (by kernel_rfl) ?_
  refine wp_seq ?_
  refine wp_seq ?_
  refine region_rule ?_
  refine ops_rule (C := [(q, .cells #[.int .i64 0, .pointer none, .pointer none] 73)]) [] [] 5 [.c 0] 0 (fun φ2 => [(11, .bool true), (10, .int .i64 0), (9, .pointer (some ⟨q, 0, none⟩)), (8, .pointer (some ⟨q, 0, none⟩)), (7, .pointer (some ⟨q, 0, none⟩))]) (fun φ2 => []) (fun φ2 => [q]) s ⟨h, trivial⟩ (fun φ2 => by kernel_rfl) ?_
  intro φ2 w2 s
  refine ops_done (by kernel_rfl) ?_
  refine cond_true_rule (b := true) (by kernel_rfl) rfl ?_
  refine wp_seq ?_
  refine region_rule ?_
  refine ops_rule (C := []) [] [] 1 [] 0 (fun φ3 => [(6, .slice none 0 0)]) (fun φ3 => []) (fun φ3 => []) s trivial (fun φ3 => by kernel_rfl) ?_
  intro φ3 w3 s
  refine ops_done (by kernel_rfl) ?_
  refine wp_ret ?_
  refine ret_rule (C := []) [] [] (.slice none 0 0) [] [] s trivial (by kernel_rfl) ?_
  replace s := s.drop (List.sublist_append_right [] [])
  exact ⟨_, _, _, rfl, s, (RowH.nil 39 2)⟩

set_option maxHeartbeats 2000000 in
theorem rs_one {I : IM} {q a k : Nat} (h : RT I T.one q) (hc : cntT T.one ≤ 100000) (ha : a + 2 ^ k ≤ 65536) : FunM Try.prog 11 #[.pointer (some ⟨q, 0, none⟩), .int .u64 ((a : Nat) : Int), .int .u64 ((2 ^ k : Nat) : Int)] I [] (fun v J F' => RowH 39 2 v (cntT T.one) (sps (spT T.one a k)) F') := by
  have hz : RT _ T.one q := h
  refine enterM_rule 41 [(0, .pointer (some ⟨q, 0, none⟩)), (1, .int .u64 ((a : Nat) : Int)), (2, .int .u64 ((2 ^ k : Nat) : Int))] Try.func11 rfl (by kernel_rfl) ?_
  intro w s
  refine wp_seq ?_
  refine region_rule ?_
  refine ops_rule (C := []) [] [] 1 [] 0 (fun φ1 => [(6, .slice none 0 0)]) (fun φ1 => []) (fun φ1 => []) s trivial (fun φ1 => by kernel_rfl) ?_
  intro φ1 w1 s
  refine ops_done (by kernel_rfl) ?_
  refine wp_seq ?_
  refine wp_seq ?_
  refine region_rule ?_
  refine ops_rule (C := [(q, .cells #[.int .i64 1, .pointer none, .pointer none] 73)]) [] [] 5 [.c 0] 0 (fun φ2 => [(11, .bool false), (10, .int .i64 1), (9, .pointer (some ⟨q, 0, none⟩)), (8, .pointer (some ⟨q, 0, none⟩)), (7, .pointer (some ⟨q, 0, none⟩))]) (fun φ2 => []) (fun φ2 => [q]) s ⟨h, trivial⟩ (fun φ2 => by kernel_rfl) ?_
  intro φ2 w2 s
  refine ops_done (by kernel_rfl) ?_
  refine cond_false_rule (b := false) (by kernel_rfl) rfl ?_
  refine wp_skip ?_
  refine wp_seq ?_
  refine wp_seq ?_
  refine region_rule ?_
  refine ops_rule (C := [(q, .cells #[.int .i64 1, .pointer none, .pointer none] 73)]) [] [] 5 [.c 0] 0 (fun φ3 => [(16, .bool true), (15, .int .i64 1), (14, .pointer (some ⟨q, 0, none⟩)), (13, .pointer (some ⟨q, 0, none⟩)), (12, .pointer (some ⟨q, 0, none⟩))]) (fun φ3 => []) (fun φ3 => [q]) s ⟨h, trivial⟩ (fun φ3 => by kernel_rfl) ?_
  intro φ3 w3 s
  refine ops_done (by kernel_rfl) ?_
  refine cond_true_rule (b := true) (by kernel_rfl) rfl ?_
  refine wp_seq ?_
  refine region_rule ?_
  refine ops_rule (C := []) [] [] 5 [] 1 (fun φ4 => [(6, .slice (some ⟨(φ4 0), 0, none⟩) 1 1), (20, .slice (some ⟨(φ4 0), 0, none⟩) 1 1), (19, .agg #[.int .u64 ((a : Nat) : Int), .int .u64 ((2 ^ k : Nat) : Int)]), (18, .int .u64 ((2 ^ k : Nat) : Int)), (17, .int .u64 ((a : Nat) : Int))]) (fun φ4 => [((φ4 0), .cells #[.int .u64 ((a : Nat) : Int), .int .u64 ((2 ^ k : Nat) : Int)] 39)]) (fun φ4 => []) s trivial (fun φ4 => by kernel_rfl) ?_
  intro φ4 w4 s
  refine ops_done (by kernel_rfl) ?_
  refine wp_ret ?_
  refine ret_rule (C := []) [((φ4 0), .cells #[.int .u64 ((a : Nat) : Int), .int .u64 ((2 ^ k : Nat) : Int)] 39)] [] (.slice (some ⟨(φ4 0), 0, none⟩) 1 1) [] [] s trivial (by kernel_rfl) ?_
  replace s := s.drop (List.Sublist.append (List.Sublist.cons₂ _ List.Sublist.slnil) (List.Sublist.refl []))
  exact ⟨_, _, _, rfl, s, row_one39 _ a (2 ^ k)⟩

set_option maxHeartbeats 2000000 in
theorem rs_node {I : IM} {l r : T} {q a k : Nat} (h : RT I (T.node l r) q) (hc : cntT (T.node l r) ≤ 100000) (ha : a + 2 * 2 ^ k ≤ 65536) (ihl : ∀ {I : IM} {q : Nat}, RT I l q → FunM Try.prog 11 #[.pointer (some ⟨q, 0, none⟩), .int .u64 ((a : Nat) : Int), .int .u64 ((2 ^ k : Nat) : Int)] I [] (fun v J F' => RowH 39 2 v (cntT l) (sps (spT l a k)) F')) (ihr : ∀ {I : IM} {q : Nat}, RT I r q → FunM Try.prog 11 #[.pointer (some ⟨q, 0, none⟩), .int .u64 (((a + 2 ^ k) : Nat) : Int), .int .u64 ((2 ^ k : Nat) : Int)] I [] (fun v J F' => RowH 39 2 v (cntT r) (sps (spT r (a + 2 ^ k) k)) F')) : FunM Try.prog 11 #[.pointer (some ⟨q, 0, none⟩), .int .u64 ((a : Nat) : Int), .int .u64 ((2 * 2 ^ k : Nat) : Int)] I [] (fun v J F' => RowH 39 2 v (cntT (T.node l r)) (sps (spT (T.node l r) a (k + 1))) F') := by
  have hn := h
  obtain ⟨ql, qr, hk, hl, hr⟩ := h
  have hc1 : cntT l + cntT r ≤ 100000 := hc
  have hl1 := spT_length l a k
  have hl2 := spT_length r (a + 2 ^ k) k
  refine enterM_rule 41 [(0, .pointer (some ⟨q, 0, none⟩)), (1, .int .u64 ((a : Nat) : Int)), (2, .int .u64 ((2 * 2 ^ k : Nat) : Int))] Try.func11 rfl (by kernel_rfl) ?_
  intro w s
  refine wp_seq ?_
  refine region_rule ?_
  refine ops_rule (C := []) [] [] 1 [] 0 (fun φ1 => [(6, .slice none 0 0)]) (fun φ1 => []) (fun φ1 => []) s trivial (fun φ1 => by kernel_rfl) ?_
  intro φ1 w1 s
  refine ops_done (by kernel_rfl) ?_
  refine wp_seq ?_
  refine wp_seq ?_
  refine region_rule ?_
  refine ops_rule (C := [(q, .cells #[.int .i64 2, .pointer (some ⟨ql, 0, none⟩), .pointer (some ⟨qr, 0, none⟩)] 73)]) [] [] 5 [.c 0] 0 (fun φ2 => [(11, .bool false), (10, .int .i64 2), (9, .pointer (some ⟨q, 0, none⟩)), (8, .pointer (some ⟨q, 0, none⟩)), (7, .pointer (some ⟨q, 0, none⟩))]) (fun φ2 => []) (fun φ2 => [q]) s ⟨hk, trivial⟩ (fun φ2 => by kernel_rfl) ?_
  intro φ2 w2 s
  refine ops_done (by kernel_rfl) ?_
  refine cond_false_rule (b := false) (by kernel_rfl) rfl ?_
  refine wp_skip ?_
  refine wp_seq ?_
  refine wp_seq ?_
  refine region_rule ?_
  refine ops_rule (C := [(q, .cells #[.int .i64 2, .pointer (some ⟨ql, 0, none⟩), .pointer (some ⟨qr, 0, none⟩)] 73)]) [] [] 5 [.c 0] 0 (fun φ3 => [(16, .bool false), (15, .int .i64 2), (14, .pointer (some ⟨q, 0, none⟩)), (13, .pointer (some ⟨q, 0, none⟩)), (12, .pointer (some ⟨q, 0, none⟩))]) (fun φ3 => []) (fun φ3 => [q]) s ⟨hk, trivial⟩ (fun φ3 => by kernel_rfl) ?_
  intro φ3 w3 s
  refine ops_done (by kernel_rfl) ?_
  refine cond_false_rule (b := false) (by kernel_rfl) rfl ?_
  refine wp_skip ?_
  refine wp_seq ?_
  have hH4 := IM.Le.refl I
  refine held_begin (n := 21) (SubS I) (by kernel_rfl) (by kernel_rfl) ?_
  replace s := St.drew s
  refine held_take (fuel := 20) [] [] 0 (.pointer (some ⟨q, 0, none⟩)) (some 21) [] (I := I) trivial (by kernel_rfl) (by kernel_rfl) (by kernel_rfl) (by kernel_rfl) (by kernel_rfl) (fun _ d' _ _ _ h => by cases d' <;> exact h) (by kernel_rfl) (by kernel_rfl) s.sub ?_
  refine held_take (fuel := 19) [] [] 1 (.pointer (some ⟨q, 0, none⟩)) (some 22) [] (I := I) trivial (by kernel_rfl) (by kernel_rfl) (by kernel_rfl) (by kernel_rfl) (by kernel_rfl) (fun _ d' _ _ _ h => by cases d' <;> exact h) (by kernel_rfl) (by kernel_rfl) s.sub ?_
  refine held_take (fuel := 18) [] [] 2 (.pointer (some ⟨q, 1, none⟩)) (some 23) [] (I := I) trivial (by kernel_rfl) (by kernel_rfl) (by kernel_rfl) (by kernel_rfl) (by kernel_rfl) (fun _ d' _ _ _ h => by cases d' <;> exact h) (by kernel_rfl) (by kernel_rfl) s.sub ?_
  refine held_take (fuel := 17) [(q, .cells #[.int .i64 2, .pointer (some ⟨ql, 0, none⟩), .pointer (some ⟨qr, 0, none⟩)] 73)] [.c 0] 3 (.pointer (some ⟨ql, 0, none⟩)) (some 24) [q] (I := I) ⟨hk, trivial⟩ (by kernel_rfl) (by kernel_rfl) (by kernel_rfl) (by kernel_rfl) (by kernel_rfl) (fun _ d' _ _ _ h => by cases d' <;> exact h) (by kernel_rfl) (by kernel_rfl) s.sub ?_
  refine held_take (fuel := 16) [] [] 4 (.int .u64 ((a : Nat) : Int)) (some 25) [] (I := I) trivial (by kernel_rfl) (by kernel_rfl) (by kernel_rfl) (by kernel_rfl) (by kernel_rfl) (fun _ d' _ _ _ h => by cases d' <;> exact h) (by kernel_rfl) (by kernel_rfl) s.sub ?_
  refine held_take (fuel := 15) [] [] 5 (.int .u64 ((2 * 2 ^ k : Nat) : Int)) (some 26) [] (I := I) trivial (by kernel_rfl) (by kernel_rfl) (by kernel_rfl) (by kernel_rfl) (by kernel_rfl) (fun _ d' _ _ _ h => by cases d' <;> exact h) (by kernel_rfl) (by kernel_rfl) s.sub ?_
  refine held_take (fuel := 14) [] [] 8 (.pointer (some ⟨q, 0, none⟩)) (some 29) [] (I := I) trivial (by kernel_rfl) (by kernel_rfl) (by kernel_rfl) (by kernel_rfl) (by kernel_rfl) (fun _ d' _ _ _ h => by cases d' <;> exact h) (by kernel_rfl) (by kernel_rfl) s.sub ?_
  refine held_take (fuel := 13) [] [] 9 (.pointer (some ⟨q, 0, none⟩)) (some 30) [] (I := I) trivial (by kernel_rfl) (by kernel_rfl) (by kernel_rfl) (by kernel_rfl) (by kernel_rfl) (fun _ d' _ _ _ h => by cases d' <;> exact h) (by kernel_rfl) (by kernel_rfl) s.sub ?_
  refine held_take (fuel := 12) [] [] 10 (.pointer (some ⟨q, 2, none⟩)) (some 31) [] (I := I) trivial (by kernel_rfl) (by kernel_rfl) (by kernel_rfl) (by kernel_rfl) (by kernel_rfl) (fun _ d' _ _ _ h => by cases d' <;> exact h) (by kernel_rfl) (by kernel_rfl) s.sub ?_
  refine held_take (fuel := 11) [(q, .cells #[.int .i64 2, .pointer (some ⟨ql, 0, none⟩), .pointer (some ⟨qr, 0, none⟩)] 73)] [.c 0] 11 (.pointer (some ⟨qr, 0, none⟩)) (some 32) [q] (I := I) ⟨hk, trivial⟩ (by kernel_rfl) (by kernel_rfl) (by kernel_rfl) (by kernel_rfl) (by kernel_rfl) (fun _ d' _ _ _ h => by cases d' <;> exact h) (by kernel_rfl) (by kernel_rfl) s.sub ?_
  refine held_take (fuel := 10) [] [] 12 (.int .u64 ((a : Nat) : Int)) (some 33) [] (I := I) trivial (by kernel_rfl) (by kernel_rfl) (by kernel_rfl) (by kernel_rfl) (by kernel_rfl) (fun _ d' _ _ _ h => by cases d' <;> exact h) (by kernel_rfl) (by kernel_rfl) s.sub ?_
  refine held_take (fuel := 9) [] [] 13 (.int .u64 ((2 * 2 ^ k : Nat) : Int)) (some 34) [] (I := I) trivial (by kernel_rfl) (by kernel_rfl) (by kernel_rfl) (by kernel_rfl) (by kernel_rfl) (fun _ d' _ _ _ h => by cases d' <;> exact h) (by kernel_rfl) (by kernel_rfl) s.sub ?_
  refine held_take (fuel := 8) [] [] 16 (.int .u64 ((2 * 2 ^ k : Nat) : Int)) (some 37) [] (I := I) trivial (by kernel_rfl) (by kernel_rfl) (by kernel_rfl) (by kernel_rfl) (by kernel_rfl) (fun _ d' _ _ _ h => by cases d' <;> exact h) (by kernel_rfl) (by kernel_rfl) s.sub ?_
  refine held_ran (fuel := 7) (binOp .quo 34 (.int .u64 ((2 * 2 ^ k : Nat) : Int)) (.int .u64 2)) 6 (.int .u64 ((2 ^ k : Nat) : Int)) (some 27) (I := I) (by kernel_rfl) (by kernel_rfl) (by kernel_rfl) (by kernel_rfl) (by kernel_rfl) (fun _ d' _ _ _ h => by cases d' <;> exact h) (by kernel_rfl) (by kernel_rfl) (fun w' => run_half64 (by   omega)) s.sub ?_
  refine held_ran (fuel := 6) (binOp .quo 34 (.int .u64 ((2 * 2 ^ k : Nat) : Int)) (.int .u64 2)) 14 (.int .u64 ((2 ^ k : Nat) : Int)) (some 35) (I := I) (by kernel_rfl) (by kernel_rfl) (by kernel_rfl) (by kernel_rfl) (by kernel_rfl) (fun _ d' _ _ _ h => by cases d' <;> exact h) (by kernel_rfl) (by kernel_rfl) (fun w' => run_half64 (by   omega)) s.sub ?_
  refine held_ran (fuel := 5) (binOp .add 34 (.int .u64 ((a : Nat) : Int)) (.int .u64 ((2 ^ k : Nat) : Int))) 15 (.int .u64 ((a + 2 ^ k : Nat) : Int)) (some 36) (I := I) (by kernel_rfl) (by kernel_rfl) (by kernel_rfl) (by kernel_rfl) (by kernel_rfl) (fun _ d' _ _ _ h => by cases d' <;> exact h) (by kernel_rfl) (by kernel_rfl) (fun w' => run_add64 (a := a) (b := 2 ^ k) (by   omega)) s.sub ?_
  refine held_ran (fuel := 4) (binOp .quo 34 (.int .u64 ((2 * 2 ^ k : Nat) : Int)) (.int .u64 2)) 17 (.int .u64 ((2 ^ k : Nat) : Int)) (some 38) (I := I) (by kernel_rfl) (by kernel_rfl) (by kernel_rfl) (by kernel_rfl) (by kernel_rfl) (fun _ d' _ _ _ h => by cases d' <;> exact h) (by kernel_rfl) (by kernel_rfl) (fun w' => run_half64 (by   omega)) s.sub ?_
  refine held_one (fuel := 3) 7 (by kernel_rfl) (by kernel_rfl) ?_
  refine callF_rule (H := []) (F := []) (some 28) s (ihl hl) (by kernel_rfl) ?_
  intro v5 I5 w5 F5 le5 h5 s
  obtain ⟨a5, c5, rfl⟩ := row_slice h5
  replace hl := RT.mono le5 hl
  replace hr := RT.mono le5 hr
  replace hn := RT.mono le5 hn
  replace hH4 := leMono le5 hH4
  replace hk := le5 _ _ hk
  refine ops_done (by kernel_rfl) ?_
  refine held_next s hH4 ?_
  refine held_one (fuel := 2) 18 (by kernel_rfl) (by kernel_rfl) ?_
  refine call_rule (some 39) s (fun_of_rowS (ihr hr)) (by kernel_rfl) ?_
  intro v6 I6 w6 le6 h6 s
  replace hl := RT.mono le6 hl
  replace hr := RT.mono le6 hr
  replace hn := RT.mono le6 hn
  replace hH4 := leMono le6 hH4
  replace hk := le6 _ _ hk
  obtain ⟨a6, c6, rfl, h6_0⟩ := h6
  refine ops_done (by kernel_rfl) ?_
  refine held_next s hH4 ?_
  refine held_one (fuel := 1) 19 (by kernel_rfl) (by kernel_rfl) ?_
  refine append_rule (H := []) (F := F5) 32 32 39 Try.t39 (.agg #[.int .u64 0, .int .u64 0]) 2 16 (some 40) s Try.underlying32 (by kernel_rfl) (by kernel_rfl) (by kernel_rfl) (by kernel_rfl) (by kernel_rfl) (by decide) h5 (src_sps s.sub h6_0) (by simp only [maxLen]; omega) (by omega) (by kernel_rfl) ?_
  intro v7 w7 F7 s h7
  refine ops_done (by kernel_rfl) ?_
  refine held_next s hH4 ?_
  refine held_take (fuel := 0) [] [] 20 (v7) (some 6) [] (I := I) trivial (by kernel_rfl) (by kernel_rfl) (by kernel_rfl) (by kernel_rfl) (by kernel_rfl) (fun _ d' _ _ _ h => by cases d' <;> exact h) (by kernel_rfl) (by kernel_rfl) (fun k o hk => s.sub k o (hH4 k o hk)) ?_
  refine Go.wpAnyH_done (by kernel_rfl) ?_ _
  refine wp_ret ?_
  refine ret_rule (C := []) [] F7 (v7) [] [] s trivial (by kernel_rfl) ?_
  replace s := s.drop (List.sublist_append_right [] F7)
  exact ⟨_, _, _, rfl, s, (by have e := h7; simp only [spT_length] at e; simp only [spT, cntT, sps_append, Nat.add_sub_cancel] at e ⊢; exact e)⟩

theorem rs_c : ∀ (t : T) {I : IM} {q a k : Nat}, RT I t q → cntT t ≤ 100000 → t.depth ≤ k → a + 2 ^ k ≤ 65536 →
    FunM Try.prog 11 #[.pointer (some ⟨q, 0, none⟩), .int .u64 ((a : Nat) : Int), .int .u64 ((2 ^ k : Nat) : Int)] I [] (fun v J F' => RowH 39 2 v (cntT t) (sps (spT t a k)) F')
  | .zero, _, _, _, _, h, hc, hd, ha => rs_zero h hc ha
  | .one, _, _, _, _, h, hc, hd, ha => rs_one h hc ha
  | .node l r, _, _, _, 0, h, hc, hd, ha => by simp only [T.depth] at hd; omega
  | .node l r, _, _, a, k + 1, h, hc, hd, ha => by
    simp only [T.depth] at hd
    simp only [cntT] at hc
    rw [Nat.pow_succ'] at ha ⊢
    exact rs_node h hc ha (fun h1 => rs_c l h1 (by omega) (by omega) (by omega)) (fun h1 => rs_c r h1 (by omega) (by omega) (by omega))
theorem rs0_c (t : T) {I : IM} {q : Nat} (h : RT I t q) (hc : cntT t ≤ 100000) (hd : t.depth ≤ 16) : Fun Try.prog 11 #[.pointer (some ⟨q, 0, none⟩), .int .u64 0, .int .u64 65536] I (fun v J => spR (spT t 0 16) v J) :=
  fun_of_rowS (rs_c t (a := 0) (k := 16) h hc hd (by decide))

end Go.Proofs.Ytgdickihjaomjaa.Ev
/- share: how wide, made, is -/
set_option linter.all false
set_option maxRecDepth 100000
namespace Go.Proofs.Ytgdickihjaomjaa.Ev
open Go.RowKit Go.Sep
attribute [local irreducible] Go.wpList Go.Code.wp
theorem run_wholeF34 {w : World} {n : Nat} (h : n * 65536 < 2 ^ 53) : (convert 34 37 (.int .u64 ((n : Nat) : Int))).run Try.prog w = .ok (.float .f64 (dF (n * 65536))) w := by
  rw [← whole_dF h]; kernel_rfl
theorem run_eq64 {w : World} {z : Int} : (binOp .eql 34 (.int .u64 z) (.int .u64 z)).run Try.prog w = .ok (.bool true) w := by
  have h : (binOp .eql 34 (.int .u64 z) (.int .u64 z)).run Try.prog w = .ok (.bool (z == z)) w := by kernel_rfl
  rw [h, BEq.rfl]

set_option maxHeartbeats 1000000 in
theorem is_c {I : IM} {n : Nat} (hn : n ≤ 100000000) : Fun Try.prog 12 #[.float .f64 (dF n), .int .u64 ((n : Nat) : Int)] I (fun v J => v = .bool true) := by
  refine enter_rule 12 [(0, .float .f64 (dF n)), (1, .int .u64 ((n : Nat) : Int))] Try.func12 rfl (by kernel_rfl) ?_
  intro w s
  refine wp_seq ?_
  refine region_rule ?_
  refine ops_rule (C := []) [] [] 1 [] 0 (fun φ1 => [(4, .bool false)]) (fun φ1 => []) (fun φ1 => []) s trivial (fun φ1 => by kernel_rfl) ?_
  intro φ1 w1 s
  refine ops_done (by kernel_rfl) ?_
  refine wp_seq ?_
  refine region_rule ?_
  refine ops_rule (C := []) [] [] 1 [] 0 (fun φ2 => [(5, .float .f64 (dF n))]) (fun φ2 => []) (fun φ2 => []) s trivial (fun φ2 => by kernel_rfl) ?_
  intro φ2 w2 s
  refine op_rule (.int .u64 ((dF n : Nat) : Int)) (some 6) (by kernel_rfl) (fun o ho => ?_) ?_
  · cases ho
    kernel_rfl
  refine ops_rule (C := []) [] [] 1 [] 0 (fun φ3 => [(7, .int .u64 ((n : Nat) : Int))]) (fun φ3 => []) (fun φ3 => []) s trivial (fun φ3 => by kernel_rfl) ?_
  intro φ3 w3 s
  refine sem_rule (convert 34 37 (.int .u64 ((n : Nat) : Int))) (some 8) (.float .f64 (dF (n * 65536))) (by kernel_rfl) ((run_wholeF34 (by   omega))) ?_
  refine sem_rule (binOp .quo 37 (.float .f64 (dF (n * 65536))) (.float .f64 4679240012837945344)) (some 9) (.float .f64 (dF n)) (by kernel_rfl) (run_divF (by   omega)) ?_
  refine op_rule (.int .u64 ((dF n : Nat) : Int)) (some 10) (by kernel_rfl) (fun o ho => ?_) ?_
  · cases ho
    kernel_rfl
  refine sem_rule (binOp .eql 34 (.int .u64 ((dF n : Nat) : Int)) (.int .u64 ((dF n : Nat) : Int))) (some 11) (.bool true) (by kernel_rfl) (run_eq64) ?_
  refine ops_rule (C := []) [] [] 1 [] 0 (fun φ4 => [(4, .bool true)]) (fun φ4 => []) (fun φ4 => []) s trivial (fun φ4 => by kernel_rfl) ?_
  intro φ4 w4 s
  refine ops_done (by kernel_rfl) ?_
  refine wp_ret ?_
  refine ret_rule (C := []) [] [] (.bool true) [] [] s trivial (by kernel_rfl) ?_
  exact ⟨_, _, _, rfl, s, rfl⟩

set_option maxHeartbeats 2000000 in
theorem madeI_c {I : IM} {p : List UInt8} {vp : Value} (hp : BSl I p vp) : Fun Try.prog 9 #[vp] I (fun v J => ∃ b p k t, v = .tuple #[idv b p, .pointer (some ⟨k, 0, none⟩)] ∧ (t.nf ∧ t.depth ≤ 7) ∧ TRep J t b p ∧ RT J t k) := by
  have hp' := hp
  obtain ⟨pa, pc, rfl, hpc, -⟩ := hp
  have hp60 := bsl_take hp'
  clear hp'
  refine enter_rule 18 [(0, .slice pa p.length pc)] Try.func9 rfl (by kernel_rfl) ?_
  intro w s
  refine wp_seq ?_
  refine region_rule ?_
  refine ops_rule (C := []) [] [] 2 [] 1 (fun φ1 => [(3, .pointer none), (2, .pointer (some ⟨(φ1 0), 0, none⟩))]) (fun φ1 => [((φ1 0), .cells #[.bool false, .pointer none] 26)]) (fun φ1 => []) s trivial (fun φ1 => by kernel_rfl) ?_
  intro φ1 w1 s
  refine ops_done (by kernel_rfl) ?_
  refine wp_seq ?_
  refine region_rule ?_
  refine ops_rule (C := []) [((φ1 0), .cells #[.bool false, .pointer none] 26)] [] 4 [] 0 (fun φ2 => [(10, .int .i64 (if ((60 : Nat) : Int) < ((p.length : Nat) : Int) then ((60 : Nat) : Int) else ((p.length : Nat) : Int))), (9, .int .i64 ((p.length : Nat) : Int)), (8, .slice pa p.length pc), (7, .slice pa p.length pc)]) (fun φ2 => [((φ1 0), .cells #[.bool false, .pointer none] 26)]) (fun φ2 => []) s trivial (fun φ2 => by kernel_rfl) ?_
  intro φ2 w2 s
  rw [nat_min (a := p.length) (b := 60)]
  refine sem_rule (Instr.sliceAt 22 (.slice pa p.length pc) none (some (.int .i64 ((min p.length 60 : Nat) : Int))) none) (some 11) (.slice pa (min p.length 60) pc) (by kernel_rfl) (run_to (by have := hpc; omega)) ?_
  refine call_rule (some 12) s (make_c 7 (by omega) hp60) (by kernel_rfl) ?_
  intro v3 I3 w3 le3 h3 s
  replace hp60 := BSl.mono le3 hp60
  obtain ⟨k3, v3, t3, l3, rfl, h3_0, h3_1, h3_2⟩ := h3
  refine ops_rule (C := []) [((φ1 0), .cells #[.bool false, .pointer none] 26)] [] 5 [] 0 (fun φ4 => [(5, v3), (4, .pointer (some ⟨k3, 0, none⟩)), (14, v3), (13, .pointer (some ⟨k3, 0, none⟩)), (6, .tuple #[.pointer (some ⟨k3, 0, none⟩), v3])]) (fun φ4 => [((φ1 0), .cells #[.bool false, .pointer none] 26)]) (fun φ4 => []) s trivial (fun φ4 => by kernel_rfl) ?_
  intro φ4 w4 s
  refine ops_done (by kernel_rfl) ?_
  refine wp_seq ?_
  refine region_rule ?_
  refine ops_rule (C := []) [((φ1 0), .cells #[.bool false, .pointer none] 26)] [] 1 [] 0 (fun φ5 => [(15, .pointer (some ⟨k3, 0, none⟩))]) (fun φ5 => [((φ1 0), .cells #[.bool false, .pointer none] 26)]) (fun φ5 => []) s trivial (fun φ5 => by kernel_rfl) ?_
  intro φ5 w5 s
  refine call_rule (some 16) s (own_c t3 h3_0.1 (by have := h3_0.2; omega) h3_1) (by kernel_rfl) ?_
  intro v6 I6 w6 le6 h6 s
  replace hp60 := BSl.mono le6 hp60
  replace h3_1 := RT.mono le6 h3_1
  replace h3_2 := BSl.mono le6 h3_2
  obtain ⟨b6, p6, rfl, h6_0⟩ := h6
  refine ops_rule (C := []) [((φ1 0), .cells #[.bool false, .pointer none] 26)] [] 3 [.o 0, .o 0] 0 (fun φ7 => [(3, .pointer (some ⟨k3, 0, none⟩)), (17, .pointer (some ⟨k3, 0, none⟩))]) (fun φ7 => [((φ1 0), .cells #[.bool b6, .pointer p6] 26)]) (fun φ7 => [(φ1 0), (φ1 0)]) s trivial (fun φ7 => by kernel_rfl) ?_
  intro φ7 w7 s
  refine ops_done (by kernel_rfl) ?_
  refine wp_ret ?_
  refine ret_rule (C := []) [((φ1 0), .cells #[.bool b6, .pointer p6] 26)] [] (.tuple #[.agg #[.bool b6, .pointer p6], .pointer (some ⟨k3, 0, none⟩)]) [.o 0, .o 0] [(φ1 0), (φ1 0)] s trivial (by kernel_rfl) ?_
  exact ⟨_, _, _, rfl, s, ⟨_, _, _, t3, rfl, h3_0, h6_0, h3_1⟩⟩

end Go.Proofs.Ytgdickihjaomjaa.Ev
/- share: measures -/
set_option linter.all false
set_option maxRecDepth 100000
namespace Go.Proofs.Ytgdickihjaomjaa.Ev
open Go.RowKit Go.Sep
attribute [local irreducible] Go.wpList Go.Code.wp
theorem cntT_ok {t : T} (h : t.depth ≤ 8) : cntT t ≤ 100000 := by have := cntT_small h; omega
theorem rs0N_c (t : T) {I : IM} {q : Nat} (h : RT I t q) (hc : cntT t ≤ 100000) (hd : t.depth ≤ 16) : Fun Try.prog 11 #[.pointer (some ⟨q, 0, none⟩), .int .u64 0, .int .u64 65536] I (fun v J => ∃ a c, v = .slice a (cntT t) c ∧ SpS J (spT t 0 16) (.slice a (cntT t) c)) := by
  have e := rs0_c t h hc hd
  unfold spR at e
  rw [spT_length] at e
  exact e
theorem run_neC {w : World} {a b : Nat} (ha : a < 2 ^ 53) (hb : b < 2 ^ 53) : (binOp .neq 35 (.complex .f64 (dF a) (dF b)) (.complex .f64 (dF a) (dF b))).run Try.prog w = .ok (.bool false) w := by
  have h : (binOp .neq 35 (.complex .f64 (dF a) (dF b)) (.complex .f64 (dF a) (dF b))).run Try.prog w = .ok (.bool (!(Op.floatEq .f64 (dF a) (dF a) && Op.floatEq .f64 (dF b) (dF b)))) w := rfl
  rw [h, dF_eq ha ha, dF_eq hb hb, decide_eq_true rfl, decide_eq_true rfl]; rfl
theorem run_eqC2 {w : World} {a b : Nat} (ha : a < 2 ^ 53) (hb : b < 2 ^ 53) : (binOp .eql 35 (.complex .f64 (dF a) (dF b)) (.complex .f64 (dF a) (dF b))).run Try.prog w = .ok (.bool true) w := by
  rw [run_cmpC ha hb ha hb, decide_eq_true rfl, decide_eq_true rfl]; rfl
theorem d8 {t : T} (h : t.nf ∧ t.depth ≤ 7) : t.depth ≤ 8 := by omega
theorem dle16 {t : T} (h : t.depth ≤ 8) : t.depth ≤ 16 := by omega
end Go.Proofs.Ytgdickihjaomjaa.Ev
