/- share: awake -/
import Derived.Test.YtgdickihjaomjaaTuV7
import Derived.Test.YtgdickihjaomjaaTuV3
set_option linter.all false
set_option maxRecDepth 100000
namespace Go.Proofs.Ytgdickihjaomjaa
open Go.RowKit Go.Sep
attribute [local irreducible] Go.wpList Go.Code.wp
theorem size35 (w : World) : (sizeOf 35).run Try.prog w = .ok 1 w := by kernel_rfl
theorem under30 : Try.prog.underlying 30 = some (.slice 35) := by kernel_rfl
theorem run_idx30 {w : World} {g n c k : Nat} (h : k < n) : (Instr.indexAt 30 (.slice (some ⟨g, 0, none⟩) n c) (.int .i64 ((k : Nat) : Int))).run Try.prog w = .ok (.pointer (some ⟨g, k, none⟩)) w := by
  have h2 : (k : Int) < (n : Int) := by omega
  simp [Instr.indexAt, asIntOf, run_underlying under30, size35, h2, addr_add]
  intro h3; omega
theorem run_load35 {w : World} {g j : Nat} {v : Value} (h : w.cell? ⟨g, j, none⟩ = some v) : (Instr.loadAt 35 (.pointer (some ⟨g, j, none⟩))).run Try.prog w = .ok v w := by
  have e : (Instr.loadAt 35 (.pointer (some ⟨g, j, none⟩))).run Try.prog w = (load ⟨g, j, none⟩).run Try.prog w := by kernel_rfl
  rw [e]; simp only [load, Sem.run, h]

set_option maxHeartbeats 1000000 in
theorem spZ_c {I : IM} {n : Nat} {xs : List Value} {v0 : Value} {F : List OB} (hrow : RowH 35 1 v0 n xs F) (hn : n ≤ 1000) : FunM Try.prog 32 #[v0, .agg #[.bool false, .pointer none], .float .f64 4602678819172646912, .float .f64 4598175219545276416] I F (fun v J F' => RowH 35 1 v n xs F') := by
  refine enterM_rule 37 [(0, v0), (1, .agg #[.bool false, .pointer none]), (2, .float .f64 4602678819172646912), (3, .float .f64 4598175219545276416)] Try.func32 rfl (by kernel_rfl) ?_
  intro w s
  refine wp_seq ?_
  refine region_rule ?_
  refine ops_rule (C := []) [] F 2 [] 1 (fun φ1 => [(8, .slice none 0 0), (5, .pointer (some ⟨(φ1 0), 0, none⟩))]) (fun φ1 => [((φ1 0), .cells #[.bool false, .pointer none] 26)]) (fun φ1 => []) s trivial (fun φ1 => by kernel_rfl) ?_
  intro φ1 w1 s
  refine ops_done (by kernel_rfl) ?_
  refine wp_seq ?_
  refine wp_seq ?_
  refine region_rule ?_
  refine ops_rule (C := []) [((φ1 0), .cells #[.bool false, .pointer none] 26)] F 1 [.o 0, .o 0] 0 (fun φ2 => [(10, .agg #[.bool false, .pointer none])]) (fun φ2 => [((φ1 0), .cells #[.bool false, .pointer none] 26)]) (fun φ2 => [(φ1 0), (φ1 0)]) s trivial (fun φ2 => by kernel_rfl) ?_
  intro φ2 w2 s
  refine call_rule (some 11) s (isZeroZ_c) (by kernel_rfl) ?_
  intro v3 I3 w3 le3 h3 s
  obtain rfl := h3
  refine ops_done (by kernel_rfl) ?_
  refine cond_true_rule (b := true) (by kernel_rfl) rfl ?_
  refine wp_seq ?_
  refine region_rule ?_
  refine ops_rule (C := []) [((φ1 0), .cells #[.bool false, .pointer none] 26)] F 2 [] 0 (fun φ4 => [(8, v0), (12, v0)]) (fun φ4 => [((φ1 0), .cells #[.bool false, .pointer none] 26)]) (fun φ4 => []) s trivial (fun φ4 => by kernel_rfl) ?_
  intro φ4 w4 s
  refine ops_done (by kernel_rfl) ?_
  refine wp_ret ?_
  refine ret_rule (C := []) [((φ1 0), .cells #[.bool false, .pointer none] 26)] F (v0) [] [] s trivial (by kernel_rfl) ?_
  replace s := s.drop (List.sublist_append_right [((φ1 0), .cells #[.bool false, .pointer none] 26)] F)
  exact ⟨_, _, _, rfl, s, hrow⟩

set_option maxHeartbeats 1000000 in
theorem spO1_c {I : IM} {n : Nat} {xs : List Value} {v0 : Value} {F : List OB} (hrow : RowH 35 1 v0 n xs F) (hn : n ≤ 1000) : FunM Try.prog 32 #[v0, .agg #[.bool true, .pointer none], .float .f64 0, .float .f64 4602678819172646912] I F (fun v J F' => RowH 35 1 v (n + 1) (xs ++ [.complex .f64 0 4602678819172646912]) F') := by
  refine enterM_rule 37 [(0, v0), (1, .agg #[.bool true, .pointer none]), (2, .float .f64 0), (3, .float .f64 4602678819172646912)] Try.func32 rfl (by kernel_rfl) ?_
  intro w s
  refine wp_seq ?_
  refine region_rule ?_
  refine ops_rule (C := []) [] F 2 [] 1 (fun φ1 => [(8, .slice none 0 0), (5, .pointer (some ⟨(φ1 0), 0, none⟩))]) (fun φ1 => [((φ1 0), .cells #[.bool true, .pointer none] 26)]) (fun φ1 => []) s trivial (fun φ1 => by kernel_rfl) ?_
  intro φ1 w1 s
  refine ops_done (by kernel_rfl) ?_
  refine wp_seq ?_
  refine wp_seq ?_
  refine region_rule ?_
  refine ops_rule (C := []) [((φ1 0), .cells #[.bool true, .pointer none] 26)] F 1 [.o 0, .o 0] 0 (fun φ2 => [(10, .agg #[.bool true, .pointer none])]) (fun φ2 => [((φ1 0), .cells #[.bool true, .pointer none] 26)]) (fun φ2 => [(φ1 0), (φ1 0)]) s trivial (fun φ2 => by kernel_rfl) ?_
  intro φ2 w2 s
  refine call_rule (some 11) s (isZeroO_c) (by kernel_rfl) ?_
  intro v3 I3 w3 le3 h3 s
  obtain rfl := h3
  refine ops_done (by kernel_rfl) ?_
  refine cond_false_rule (b := false) (by kernel_rfl) rfl ?_
  refine wp_skip ?_
  refine wp_seq ?_
  refine wp_seq ?_
  refine region_rule ?_
  refine ops_rule (C := []) [((φ1 0), .cells #[.bool true, .pointer none] 26)] F 1 [.o 0, .o 0] 0 (fun φ4 => [(13, .agg #[.bool true, .pointer none])]) (fun φ4 => [((φ1 0), .cells #[.bool true, .pointer none] 26)]) (fun φ4 => [(φ1 0), (φ1 0)]) s trivial (fun φ4 => by kernel_rfl) ?_
  intro φ4 w4 s
  refine call_rule (some 14) s (isOneO_c) (by kernel_rfl) ?_
  intro v5 I5 w5 le5 h5 s
  obtain rfl := h5
  refine ops_done (by kernel_rfl) ?_
  refine cond_true_rule (b := true) (by kernel_rfl) rfl ?_
  refine wp_seq ?_
  refine region_rule ?_
  refine ops_rule (C := []) [((φ1 0), .cells #[.bool true, .pointer none] 26)] F 3 [] 0 (fun φ6 => [(17, .float .f64 4602678819172646912), (16, .float .f64 0), (15, v0)]) (fun φ6 => [((φ1 0), .cells #[.bool true, .pointer none] 26)]) (fun φ6 => []) s trivial (fun φ6 => by kernel_rfl) ?_
  intro φ6 w6 s
  refine sem_rule (Builtin.complex_ #[37, 37] 35 #[.float .f64 0, .float .f64 4602678819172646912]) (some 18) (.complex .f64 0 4602678819172646912) (by kernel_rfl) ((by kernel_rfl : ((Builtin.complex_ #[37, 37] 35 #[.float .f64 0, .float .f64 4602678819172646912]) : Sem Value).run Try.prog w6 = .ok (.complex .f64 0 4602678819172646912) w6)) ?_
  refine ops_rule (C := []) [((φ1 0), .cells #[.bool true, .pointer none] 26)] F 1 [] 1 (fun φ7 => [(19, .slice (some ⟨(φ7 0), 0, none⟩) 1 1)]) (fun φ7 => [((φ1 0), .cells #[.bool true, .pointer none] 26), ((φ7 0), .cells #[.complex .f64 0 4602678819172646912] 35)]) (fun φ7 => []) s trivial (fun φ7 => by kernel_rfl) ?_
  intro φ7 w7 s
  refine append_rule (H := [((φ1 0), .cells #[.bool true, .pointer none] 26), ((φ7 0), .cells #[.complex .f64 0 4602678819172646912] 35)]) (F := F) 30 30 35 Try.t35 (.complex .f64 0 0) 1 16 (some 20) s Try.underlying30 (by kernel_rfl) (by kernel_rfl) (by kernel_rfl) (by kernel_rfl) (by kernel_rfl) (by decide) hrow (src_own s 1 (φ7 0) #[.complex .f64 0 4602678819172646912] 35 30 35 1 1 1 [.complex .f64 0 4602678819172646912] (by kernel_rfl) Try.underlying30 (by kernel_rfl) (by kernel_rfl) (by kernel_rfl)) (by simp only [maxLen]; omega) (by omega) (by kernel_rfl) ?_
  intro v8 w8 F8 s h8
  refine ops_rule (C := []) [((φ1 0), .cells #[.bool true, .pointer none] 26), ((φ7 0), .cells #[.complex .f64 0 4602678819172646912] 35)] F8 1 [] 0 (fun φ9 => [(8, v8)]) (fun φ9 => [((φ1 0), .cells #[.bool true, .pointer none] 26), ((φ7 0), .cells #[.complex .f64 0 4602678819172646912] 35)]) (fun φ9 => []) s trivial (fun φ9 => by kernel_rfl) ?_
  intro φ9 w9 s
  refine ops_done (by kernel_rfl) ?_
  refine wp_ret ?_
  refine ret_rule (C := []) [((φ1 0), .cells #[.bool true, .pointer none] 26), ((φ7 0), .cells #[.complex .f64 0 4602678819172646912] 35)] F8 (v8) [] [] s trivial (by kernel_rfl) ?_
  replace s := s.drop (List.sublist_append_right [((φ1 0), .cells #[.bool true, .pointer none] 26), ((φ7 0), .cells #[.complex .f64 0 4602678819172646912] 35)] F8)
  exact ⟨_, _, _, rfl, s, h8⟩

set_option maxHeartbeats 1000000 in
theorem spO2_c {I : IM} {n : Nat} {xs : List Value} {v0 : Value} {F : List OB} (hrow : RowH 35 1 v0 n xs F) (hn : n ≤ 1000) : FunM Try.prog 32 #[v0, .agg #[.bool true, .pointer none], .float .f64 4604930618986332160, .float .f64 4598175219545276416] I F (fun v J F' => RowH 35 1 v (n + 1) (xs ++ [.complex .f64 4604930618986332160 4598175219545276416]) F') := by
  refine enterM_rule 37 [(0, v0), (1, .agg #[.bool true, .pointer none]), (2, .float .f64 4604930618986332160), (3, .float .f64 4598175219545276416)] Try.func32 rfl (by kernel_rfl) ?_
  intro w s
  refine wp_seq ?_
  refine region_rule ?_
  refine ops_rule (C := []) [] F 2 [] 1 (fun φ1 => [(8, .slice none 0 0), (5, .pointer (some ⟨(φ1 0), 0, none⟩))]) (fun φ1 => [((φ1 0), .cells #[.bool true, .pointer none] 26)]) (fun φ1 => []) s trivial (fun φ1 => by kernel_rfl) ?_
  intro φ1 w1 s
  refine ops_done (by kernel_rfl) ?_
  refine wp_seq ?_
  refine wp_seq ?_
  refine region_rule ?_
  refine ops_rule (C := []) [((φ1 0), .cells #[.bool true, .pointer none] 26)] F 1 [.o 0, .o 0] 0 (fun φ2 => [(10, .agg #[.bool true, .pointer none])]) (fun φ2 => [((φ1 0), .cells #[.bool true, .pointer none] 26)]) (fun φ2 => [(φ1 0), (φ1 0)]) s trivial (fun φ2 => by kernel_rfl) ?_
  intro φ2 w2 s
  refine call_rule (some 11) s (isZeroO_c) (by kernel_rfl) ?_
  intro v3 I3 w3 le3 h3 s
  obtain rfl := h3
  refine ops_done (by kernel_rfl) ?_
  refine cond_false_rule (b := false) (by kernel_rfl) rfl ?_
  refine wp_skip ?_
  refine wp_seq ?_
  refine wp_seq ?_
  refine region_rule ?_
  refine ops_rule (C := []) [((φ1 0), .cells #[.bool true, .pointer none] 26)] F 1 [.o 0, .o 0] 0 (fun φ4 => [(13, .agg #[.bool true, .pointer none])]) (fun φ4 => [((φ1 0), .cells #[.bool true, .pointer none] 26)]) (fun φ4 => [(φ1 0), (φ1 0)]) s trivial (fun φ4 => by kernel_rfl) ?_
  intro φ4 w4 s
  refine call_rule (some 14) s (isOneO_c) (by kernel_rfl) ?_
  intro v5 I5 w5 le5 h5 s
  obtain rfl := h5
  refine ops_done (by kernel_rfl) ?_
  refine cond_true_rule (b := true) (by kernel_rfl) rfl ?_
  refine wp_seq ?_
  refine region_rule ?_
  refine ops_rule (C := []) [((φ1 0), .cells #[.bool true, .pointer none] 26)] F 3 [] 0 (fun φ6 => [(17, .float .f64 4598175219545276416), (16, .float .f64 4604930618986332160), (15, v0)]) (fun φ6 => [((φ1 0), .cells #[.bool true, .pointer none] 26)]) (fun φ6 => []) s trivial (fun φ6 => by kernel_rfl) ?_
  intro φ6 w6 s
  refine sem_rule (Builtin.complex_ #[37, 37] 35 #[.float .f64 4604930618986332160, .float .f64 4598175219545276416]) (some 18) (.complex .f64 4604930618986332160 4598175219545276416) (by kernel_rfl) ((by kernel_rfl : ((Builtin.complex_ #[37, 37] 35 #[.float .f64 4604930618986332160, .float .f64 4598175219545276416]) : Sem Value).run Try.prog w6 = .ok (.complex .f64 4604930618986332160 4598175219545276416) w6)) ?_
  refine ops_rule (C := []) [((φ1 0), .cells #[.bool true, .pointer none] 26)] F 1 [] 1 (fun φ7 => [(19, .slice (some ⟨(φ7 0), 0, none⟩) 1 1)]) (fun φ7 => [((φ1 0), .cells #[.bool true, .pointer none] 26), ((φ7 0), .cells #[.complex .f64 4604930618986332160 4598175219545276416] 35)]) (fun φ7 => []) s trivial (fun φ7 => by kernel_rfl) ?_
  intro φ7 w7 s
  refine append_rule (H := [((φ1 0), .cells #[.bool true, .pointer none] 26), ((φ7 0), .cells #[.complex .f64 4604930618986332160 4598175219545276416] 35)]) (F := F) 30 30 35 Try.t35 (.complex .f64 0 0) 1 16 (some 20) s Try.underlying30 (by kernel_rfl) (by kernel_rfl) (by kernel_rfl) (by kernel_rfl) (by kernel_rfl) (by decide) hrow (src_own s 1 (φ7 0) #[.complex .f64 4604930618986332160 4598175219545276416] 35 30 35 1 1 1 [.complex .f64 4604930618986332160 4598175219545276416] (by kernel_rfl) Try.underlying30 (by kernel_rfl) (by kernel_rfl) (by kernel_rfl)) (by simp only [maxLen]; omega) (by omega) (by kernel_rfl) ?_
  intro v8 w8 F8 s h8
  refine ops_rule (C := []) [((φ1 0), .cells #[.bool true, .pointer none] 26), ((φ7 0), .cells #[.complex .f64 4604930618986332160 4598175219545276416] 35)] F8 1 [] 0 (fun φ9 => [(8, v8)]) (fun φ9 => [((φ1 0), .cells #[.bool true, .pointer none] 26), ((φ7 0), .cells #[.complex .f64 4604930618986332160 4598175219545276416] 35)]) (fun φ9 => []) s trivial (fun φ9 => by kernel_rfl) ?_
  intro φ9 w9 s
  refine ops_done (by kernel_rfl) ?_
  refine wp_ret ?_
  refine ret_rule (C := []) [((φ1 0), .cells #[.bool true, .pointer none] 26), ((φ7 0), .cells #[.complex .f64 4604930618986332160 4598175219545276416] 35)] F8 (v8) [] [] s trivial (by kernel_rfl) ?_
  replace s := s.drop (List.sublist_append_right [((φ1 0), .cells #[.bool true, .pointer none] 26), ((φ7 0), .cells #[.complex .f64 4604930618986332160 4598175219545276416] 35)] F8)
  exact ⟨_, _, _, rfl, s, h8⟩

set_option maxHeartbeats 1000000 in
theorem sp2_c {I : IM} {n : Nat} {xs : List Value} {v0 : Value} {F : List OB} {k : Nat} (hk : D2 I k) (hrow : RowH 35 1 v0 n xs F) (hn : n ≤ 950) : FunM Try.prog 32 #[v0, .agg #[.bool false, .pointer (some ⟨k, 0, none⟩)], .float .f64 4602678819172646912, .float .f64 4602678819172646912] I F (fun v J F' => RowH 35 1 v (n + 1) (xs ++ [.complex .f64 4604930618986332160 4598175219545276416]) F') := by
  refine enterM_rule 37 [(0, v0), (1, .agg #[.bool false, .pointer (some ⟨k, 0, none⟩)]), (2, .float .f64 4602678819172646912), (3, .float .f64 4602678819172646912)] Try.func32 rfl (by kernel_rfl) ?_
  intro w s
  refine wp_seq ?_
  refine region_rule ?_
  refine ops_rule (C := []) [] F 2 [] 1 (fun φ1 => [(8, .slice none 0 0), (5, .pointer (some ⟨(φ1 0), 0, none⟩))]) (fun φ1 => [((φ1 0), .cells #[.bool false, .pointer (some ⟨k, 0, none⟩)] 26)]) (fun φ1 => []) s trivial (fun φ1 => by kernel_rfl) ?_
  intro φ1 w1 s
  refine ops_done (by kernel_rfl) ?_
  refine wp_seq ?_
  refine wp_seq ?_
  refine region_rule ?_
  refine ops_rule (C := []) [((φ1 0), .cells #[.bool false, .pointer (some ⟨k, 0, none⟩)] 26)] F 1 [.o 0, .o 0] 0 (fun φ2 => [(10, .agg #[.bool false, .pointer (some ⟨k, 0, none⟩)])]) (fun φ2 => [((φ1 0), .cells #[.bool false, .pointer (some ⟨k, 0, none⟩)] 26)]) (fun φ2 => [(φ1 0), (φ1 0)]) s trivial (fun φ2 => by kernel_rfl) ?_
  intro φ2 w2 s
  refine call_rule (some 11) s (isZero2_c (k := k) hk) (by kernel_rfl) ?_
  intro v3 I3 w3 le3 h3 s
  replace hk := D2.mono le3 hk
  obtain rfl := h3
  refine ops_done (by kernel_rfl) ?_
  refine cond_false_rule (b := false) (by kernel_rfl) rfl ?_
  refine wp_skip ?_
  refine wp_seq ?_
  refine wp_seq ?_
  refine region_rule ?_
  refine ops_rule (C := []) [((φ1 0), .cells #[.bool false, .pointer (some ⟨k, 0, none⟩)] 26)] F 1 [.o 0, .o 0] 0 (fun φ4 => [(13, .agg #[.bool false, .pointer (some ⟨k, 0, none⟩)])]) (fun φ4 => [((φ1 0), .cells #[.bool false, .pointer (some ⟨k, 0, none⟩)] 26)]) (fun φ4 => [(φ1 0), (φ1 0)]) s trivial (fun φ4 => by kernel_rfl) ?_
  intro φ4 w4 s
  refine call_rule (some 14) s (isOne2_c (k := k) hk) (by kernel_rfl) ?_
  intro v5 I5 w5 le5 h5 s
  replace hk := D2.mono le5 hk
  obtain rfl := h5
  refine ops_done (by kernel_rfl) ?_
  refine cond_false_rule (b := false) (by kernel_rfl) rfl ?_
  refine wp_skip ?_
  refine wp_seq ?_
  refine region_rule ?_
  refine ops_rule (C := []) [((φ1 0), .cells #[.bool false, .pointer (some ⟨k, 0, none⟩)] 26)] F 1 [] 0 (fun φ6 => [(21, .float .f64 4602678819172646912)]) (fun φ6 => [((φ1 0), .cells #[.bool false, .pointer (some ⟨k, 0, none⟩)] 26)]) (fun φ6 => []) s trivial (fun φ6 => by kernel_rfl) ?_
  intro φ6 w6 s
  refine sem_rule (binOp .quo 37 (.float .f64 4602678819172646912) (.float .f64 4611686018427387904)) (some 22) (.float .f64 4598175219545276416) (by kernel_rfl) ((by kernel_rfl : ((binOp .quo 37 (.float .f64 4602678819172646912) (.float .f64 4611686018427387904)) : Sem Value).run Try.prog w6 = .ok (.float .f64 4598175219545276416) w6)) ?_
  refine ops_rule (C := []) [((φ1 0), .cells #[.bool false, .pointer (some ⟨k, 0, none⟩)] 26)] F 1 [] 0 (fun φ7 => [(9, .float .f64 4598175219545276416)]) (fun φ7 => [((φ1 0), .cells #[.bool false, .pointer (some ⟨k, 0, none⟩)] 26)]) (fun φ7 => []) s trivial (fun φ7 => by kernel_rfl) ?_
  intro φ7 w7 s
  refine ops_done (by kernel_rfl) ?_
  refine wp_seq ?_
  refine region_rule ?_
  refine ops_rule (C := []) [((φ1 0), .cells #[.bool false, .pointer (some ⟨k, 0, none⟩)] 26)] F 2 [.o 0, .o 0] 0 (fun φ8 => [(24, .agg #[.bool false, .pointer (some ⟨k, 0, none⟩)]), (23, v0)]) (fun φ8 => [((φ1 0), .cells #[.bool false, .pointer (some ⟨k, 0, none⟩)] 26)]) (fun φ8 => [(φ1 0), (φ1 0)]) s trivial (fun φ8 => by kernel_rfl) ?_
  intro φ8 w8 s
  refine call_rule (some 25) s (left2_c (k := k) hk) (by kernel_rfl) ?_
  intro v9 I9 w9 le9 h9 s
  replace hk := D2.mono le9 hk
  obtain rfl := h9
  refine ops_rule (C := []) [((φ1 0), .cells #[.bool false, .pointer (some ⟨k, 0, none⟩)] 26)] F 2 [] 0 (fun φ10 => [(27, .float .f64 4598175219545276416), (26, .float .f64 4602678819172646912)]) (fun φ10 => [((φ1 0), .cells #[.bool false, .pointer (some ⟨k, 0, none⟩)] 26)]) (fun φ10 => []) s trivial (fun φ10 => by kernel_rfl) ?_
  intro φ10 w10 s
  refine callF_rule (H := [((φ1 0), .cells #[.bool false, .pointer (some ⟨k, 0, none⟩)] 26)]) (F := F) (some 28) s (spZ_c (n := n) (xs := xs) hrow (by omega)) (by kernel_rfl) ?_
  intro v11 I11 w11 F11 le11 h11 s
  replace hk := D2.mono le11 hk
  refine ops_rule (C := []) [((φ1 0), .cells #[.bool false, .pointer (some ⟨k, 0, none⟩)] 26)] F11 1 [] 0 (fun φ12 => [(0, v11)]) (fun φ12 => [((φ1 0), .cells #[.bool false, .pointer (some ⟨k, 0, none⟩)] 26)]) (fun φ12 => []) s trivial (fun φ12 => by kernel_rfl) ?_
  intro φ12 w12 s
  refine ops_done (by kernel_rfl) ?_
  refine wp_seq ?_
  refine region_rule ?_
  refine ops_rule (C := []) [((φ1 0), .cells #[.bool false, .pointer (some ⟨k, 0, none⟩)] 26)] F11 2 [.o 0, .o 0] 0 (fun φ13 => [(30, .agg #[.bool false, .pointer (some ⟨k, 0, none⟩)]), (29, v11)]) (fun φ13 => [((φ1 0), .cells #[.bool false, .pointer (some ⟨k, 0, none⟩)] 26)]) (fun φ13 => [(φ1 0), (φ1 0)]) s trivial (fun φ13 => by kernel_rfl) ?_
  intro φ13 w13 s
  refine call_rule (some 31) s (right2_c (k := k) hk) (by kernel_rfl) ?_
  intro v14 I14 w14 le14 h14 s
  replace hk := D2.mono le14 hk
  obtain rfl := h14
  refine ops_rule (C := []) [((φ1 0), .cells #[.bool false, .pointer (some ⟨k, 0, none⟩)] 26)] F11 2 [] 0 (fun φ15 => [(33, .float .f64 4598175219545276416), (32, .float .f64 4602678819172646912)]) (fun φ15 => [((φ1 0), .cells #[.bool false, .pointer (some ⟨k, 0, none⟩)] 26)]) (fun φ15 => []) s trivial (fun φ15 => by kernel_rfl) ?_
  intro φ15 w15 s
  refine sem_rule (binOp .add 37 (.float .f64 4602678819172646912) (.float .f64 4598175219545276416)) (some 34) (.float .f64 4604930618986332160) (by kernel_rfl) ((by kernel_rfl : ((binOp .add 37 (.float .f64 4602678819172646912) (.float .f64 4598175219545276416)) : Sem Value).run Try.prog w15 = .ok (.float .f64 4604930618986332160) w15)) ?_
  refine ops_rule (C := []) [((φ1 0), .cells #[.bool false, .pointer (some ⟨k, 0, none⟩)] 26)] F11 1 [] 0 (fun φ16 => [(35, .float .f64 4598175219545276416)]) (fun φ16 => [((φ1 0), .cells #[.bool false, .pointer (some ⟨k, 0, none⟩)] 26)]) (fun φ16 => []) s trivial (fun φ16 => by kernel_rfl) ?_
  intro φ16 w16 s
  refine callF_rule (H := [((φ1 0), .cells #[.bool false, .pointer (some ⟨k, 0, none⟩)] 26)]) (F := F11) (some 36) s (spO2_c (n := n) (xs := xs) h11 (by omega)) (by kernel_rfl) ?_
  intro v17 I17 w17 F17 le17 h17 s
  replace hk := D2.mono le17 hk
  refine ops_rule (C := []) [((φ1 0), .cells #[.bool false, .pointer (some ⟨k, 0, none⟩)] 26)] F17 1 [] 0 (fun φ18 => [(8, v17)]) (fun φ18 => [((φ1 0), .cells #[.bool false, .pointer (some ⟨k, 0, none⟩)] 26)]) (fun φ18 => []) s trivial (fun φ18 => by kernel_rfl) ?_
  intro φ18 w18 s
  refine ops_done (by kernel_rfl) ?_
  refine wp_ret ?_
  refine ret_rule (C := []) [((φ1 0), .cells #[.bool false, .pointer (some ⟨k, 0, none⟩)] 26)] F17 (v17) [] [] s trivial (by kernel_rfl) ?_
  replace s := s.drop (List.sublist_append_right [((φ1 0), .cells #[.bool false, .pointer (some ⟨k, 0, none⟩)] 26)] F17)
  exact ⟨_, _, _, rfl, s, h17⟩

set_option maxHeartbeats 1000000 in
theorem sp1_c {I : IM} {n : Nat} {xs : List Value} {v0 : Value} {F : List OB} {k k2 : Nat} (hk : D1 I k k2) (hk2 : D2 I k2) (hrow : RowH 35 1 v0 n xs F) (hn : n ≤ 900) : FunM Try.prog 32 #[v0, .agg #[.bool false, .pointer (some ⟨k, 0, none⟩)], .float .f64 0, .float .f64 4607182418800017408] I F (fun v J F' => RowH 35 1 v (n + 1 + 1) ((xs ++ [.complex .f64 0 4602678819172646912]) ++ [.complex .f64 4604930618986332160 4598175219545276416]) F') := by
  refine enterM_rule 37 [(0, v0), (1, .agg #[.bool false, .pointer (some ⟨k, 0, none⟩)]), (2, .float .f64 0), (3, .float .f64 4607182418800017408)] Try.func32 rfl (by kernel_rfl) ?_
  intro w s
  refine wp_seq ?_
  refine region_rule ?_
  refine ops_rule (C := []) [] F 2 [] 1 (fun φ1 => [(8, .slice none 0 0), (5, .pointer (some ⟨(φ1 0), 0, none⟩))]) (fun φ1 => [((φ1 0), .cells #[.bool false, .pointer (some ⟨k, 0, none⟩)] 26)]) (fun φ1 => []) s trivial (fun φ1 => by kernel_rfl) ?_
  intro φ1 w1 s
  refine ops_done (by kernel_rfl) ?_
  refine wp_seq ?_
  refine wp_seq ?_
  refine region_rule ?_
  refine ops_rule (C := []) [((φ1 0), .cells #[.bool false, .pointer (some ⟨k, 0, none⟩)] 26)] F 1 [.o 0, .o 0] 0 (fun φ2 => [(10, .agg #[.bool false, .pointer (some ⟨k, 0, none⟩)])]) (fun φ2 => [((φ1 0), .cells #[.bool false, .pointer (some ⟨k, 0, none⟩)] 26)]) (fun φ2 => [(φ1 0), (φ1 0)]) s trivial (fun φ2 => by kernel_rfl) ?_
  intro φ2 w2 s
  refine call_rule (some 11) s (isZero1_c (k := k) hk hk2) (by kernel_rfl) ?_
  intro v3 I3 w3 le3 h3 s
  replace hk := D1.mono le3 hk
  replace hk2 := D2.mono le3 hk2
  obtain rfl := h3
  refine ops_done (by kernel_rfl) ?_
  refine cond_false_rule (b := false) (by kernel_rfl) rfl ?_
  refine wp_skip ?_
  refine wp_seq ?_
  refine wp_seq ?_
  refine region_rule ?_
  refine ops_rule (C := []) [((φ1 0), .cells #[.bool false, .pointer (some ⟨k, 0, none⟩)] 26)] F 1 [.o 0, .o 0] 0 (fun φ4 => [(13, .agg #[.bool false, .pointer (some ⟨k, 0, none⟩)])]) (fun φ4 => [((φ1 0), .cells #[.bool false, .pointer (some ⟨k, 0, none⟩)] 26)]) (fun φ4 => [(φ1 0), (φ1 0)]) s trivial (fun φ4 => by kernel_rfl) ?_
  intro φ4 w4 s
  refine call_rule (some 14) s (isOne1_c (k := k) hk hk2) (by kernel_rfl) ?_
  intro v5 I5 w5 le5 h5 s
  replace hk := D1.mono le5 hk
  replace hk2 := D2.mono le5 hk2
  obtain rfl := h5
  refine ops_done (by kernel_rfl) ?_
  refine cond_false_rule (b := false) (by kernel_rfl) rfl ?_
  refine wp_skip ?_
  refine wp_seq ?_
  refine region_rule ?_
  refine ops_rule (C := []) [((φ1 0), .cells #[.bool false, .pointer (some ⟨k, 0, none⟩)] 26)] F 1 [] 0 (fun φ6 => [(21, .float .f64 4607182418800017408)]) (fun φ6 => [((φ1 0), .cells #[.bool false, .pointer (some ⟨k, 0, none⟩)] 26)]) (fun φ6 => []) s trivial (fun φ6 => by kernel_rfl) ?_
  intro φ6 w6 s
  refine sem_rule (binOp .quo 37 (.float .f64 4607182418800017408) (.float .f64 4611686018427387904)) (some 22) (.float .f64 4602678819172646912) (by kernel_rfl) ((by kernel_rfl : ((binOp .quo 37 (.float .f64 4607182418800017408) (.float .f64 4611686018427387904)) : Sem Value).run Try.prog w6 = .ok (.float .f64 4602678819172646912) w6)) ?_
  refine ops_rule (C := []) [((φ1 0), .cells #[.bool false, .pointer (some ⟨k, 0, none⟩)] 26)] F 1 [] 0 (fun φ7 => [(9, .float .f64 4602678819172646912)]) (fun φ7 => [((φ1 0), .cells #[.bool false, .pointer (some ⟨k, 0, none⟩)] 26)]) (fun φ7 => []) s trivial (fun φ7 => by kernel_rfl) ?_
  intro φ7 w7 s
  refine ops_done (by kernel_rfl) ?_
  refine wp_seq ?_
  refine region_rule ?_
  refine ops_rule (C := []) [((φ1 0), .cells #[.bool false, .pointer (some ⟨k, 0, none⟩)] 26)] F 2 [.o 0, .o 0] 0 (fun φ8 => [(24, .agg #[.bool false, .pointer (some ⟨k, 0, none⟩)]), (23, v0)]) (fun φ8 => [((φ1 0), .cells #[.bool false, .pointer (some ⟨k, 0, none⟩)] 26)]) (fun φ8 => [(φ1 0), (φ1 0)]) s trivial (fun φ8 => by kernel_rfl) ?_
  intro φ8 w8 s
  refine call_rule (some 25) s (left1_c (k := k) hk hk2) (by kernel_rfl) ?_
  intro v9 I9 w9 le9 h9 s
  replace hk := D1.mono le9 hk
  replace hk2 := D2.mono le9 hk2
  obtain rfl := h9
  refine ops_rule (C := []) [((φ1 0), .cells #[.bool false, .pointer (some ⟨k, 0, none⟩)] 26)] F 2 [] 0 (fun φ10 => [(27, .float .f64 4602678819172646912), (26, .float .f64 0)]) (fun φ10 => [((φ1 0), .cells #[.bool false, .pointer (some ⟨k, 0, none⟩)] 26)]) (fun φ10 => []) s trivial (fun φ10 => by kernel_rfl) ?_
  intro φ10 w10 s
  refine callF_rule (H := [((φ1 0), .cells #[.bool false, .pointer (some ⟨k, 0, none⟩)] 26)]) (F := F) (some 28) s (spO1_c (n := n) (xs := xs) hrow (by omega)) (by kernel_rfl) ?_
  intro v11 I11 w11 F11 le11 h11 s
  replace hk := D1.mono le11 hk
  replace hk2 := D2.mono le11 hk2
  refine ops_rule (C := []) [((φ1 0), .cells #[.bool false, .pointer (some ⟨k, 0, none⟩)] 26)] F11 1 [] 0 (fun φ12 => [(0, v11)]) (fun φ12 => [((φ1 0), .cells #[.bool false, .pointer (some ⟨k, 0, none⟩)] 26)]) (fun φ12 => []) s trivial (fun φ12 => by kernel_rfl) ?_
  intro φ12 w12 s
  refine ops_done (by kernel_rfl) ?_
  refine wp_seq ?_
  refine region_rule ?_
  refine ops_rule (C := []) [((φ1 0), .cells #[.bool false, .pointer (some ⟨k, 0, none⟩)] 26)] F11 2 [.o 0, .o 0] 0 (fun φ13 => [(30, .agg #[.bool false, .pointer (some ⟨k, 0, none⟩)]), (29, v11)]) (fun φ13 => [((φ1 0), .cells #[.bool false, .pointer (some ⟨k, 0, none⟩)] 26)]) (fun φ13 => [(φ1 0), (φ1 0)]) s trivial (fun φ13 => by kernel_rfl) ?_
  intro φ13 w13 s
  refine call_rule (some 31) s (right1_c (k := k) hk hk2) (by kernel_rfl) ?_
  intro v14 I14 w14 le14 h14 s
  replace hk := D1.mono le14 hk
  replace hk2 := D2.mono le14 hk2
  obtain rfl := h14
  refine ops_rule (C := []) [((φ1 0), .cells #[.bool false, .pointer (some ⟨k, 0, none⟩)] 26)] F11 2 [] 0 (fun φ15 => [(33, .float .f64 4602678819172646912), (32, .float .f64 0)]) (fun φ15 => [((φ1 0), .cells #[.bool false, .pointer (some ⟨k, 0, none⟩)] 26)]) (fun φ15 => []) s trivial (fun φ15 => by kernel_rfl) ?_
  intro φ15 w15 s
  refine sem_rule (binOp .add 37 (.float .f64 0) (.float .f64 4602678819172646912)) (some 34) (.float .f64 4602678819172646912) (by kernel_rfl) ((by kernel_rfl : ((binOp .add 37 (.float .f64 0) (.float .f64 4602678819172646912)) : Sem Value).run Try.prog w15 = .ok (.float .f64 4602678819172646912) w15)) ?_
  refine ops_rule (C := []) [((φ1 0), .cells #[.bool false, .pointer (some ⟨k, 0, none⟩)] 26)] F11 1 [] 0 (fun φ16 => [(35, .float .f64 4602678819172646912)]) (fun φ16 => [((φ1 0), .cells #[.bool false, .pointer (some ⟨k, 0, none⟩)] 26)]) (fun φ16 => []) s trivial (fun φ16 => by kernel_rfl) ?_
  intro φ16 w16 s
  refine callF_rule (H := [((φ1 0), .cells #[.bool false, .pointer (some ⟨k, 0, none⟩)] 26)]) (F := F11) (some 36) s (sp2_c (n := (n + 1)) (xs := (xs ++ [.complex .f64 0 4602678819172646912])) hk2 h11 (by omega)) (by kernel_rfl) ?_
  intro v17 I17 w17 F17 le17 h17 s
  replace hk := D1.mono le17 hk
  replace hk2 := D2.mono le17 hk2
  refine ops_rule (C := []) [((φ1 0), .cells #[.bool false, .pointer (some ⟨k, 0, none⟩)] 26)] F17 1 [] 0 (fun φ18 => [(8, v17)]) (fun φ18 => [((φ1 0), .cells #[.bool false, .pointer (some ⟨k, 0, none⟩)] 26)]) (fun φ18 => []) s trivial (fun φ18 => by kernel_rfl) ?_
  intro φ18 w18 s
  refine ops_done (by kernel_rfl) ?_
  refine wp_ret ?_
  refine ret_rule (C := []) [((φ1 0), .cells #[.bool false, .pointer (some ⟨k, 0, none⟩)] 26)] F17 (v17) [] [] s trivial (by kernel_rfl) ?_
  replace s := s.drop (List.sublist_append_right [((φ1 0), .cells #[.bool false, .pointer (some ⟨k, 0, none⟩)] 26)] F17)
  exact ⟨_, _, _, rfl, s, h17⟩

set_option maxHeartbeats 1000000 in
theorem spans_c {I : IM} {k k2 : Nat} (hk : D1 I k k2) (hk2 : D2 I k2) : FunM Try.prog 10 #[.agg #[.bool false, .pointer (some ⟨k, 0, none⟩)]] I [] (fun v J F' => RowH 35 1 v 2 [.complex .f64 0 4602678819172646912, .complex .f64 4604930618986332160 4598175219545276416] F') := by
  refine enterM_rule 5 [(0, .agg #[.bool false, .pointer (some ⟨k, 0, none⟩)])] Try.func10 rfl (by kernel_rfl) ?_
  intro w s
  refine wp_seq ?_
  refine region_rule ?_
  refine ops_rule (C := []) [] [] 2 [] 1 (fun φ1 => [(2, .slice none 0 0), (1, .pointer (some ⟨(φ1 0), 0, none⟩))]) (fun φ1 => [((φ1 0), .cells #[.bool false, .pointer (some ⟨k, 0, none⟩)] 26)]) (fun φ1 => []) s trivial (fun φ1 => by kernel_rfl) ?_
  intro φ1 w1 s
  refine ops_done (by kernel_rfl) ?_
  refine wp_seq ?_
  refine region_rule ?_
  refine ops_rule (C := []) [((φ1 0), .cells #[.bool false, .pointer (some ⟨k, 0, none⟩)] 26)] [] 1 [.o 0, .o 0] 0 (fun φ2 => [(3, .agg #[.bool false, .pointer (some ⟨k, 0, none⟩)])]) (fun φ2 => [((φ1 0), .cells #[.bool false, .pointer (some ⟨k, 0, none⟩)] 26)]) (fun φ2 => [(φ1 0), (φ1 0)]) s trivial (fun φ2 => by kernel_rfl) ?_
  intro φ2 w2 s
  refine callF_rule (H := [((φ1 0), .cells #[.bool false, .pointer (some ⟨k, 0, none⟩)] 26)]) (F := []) (some 4) s (sp1_c (n := 0) (xs := []) hk hk2 (RowH.nil 35 1) (by omega)) (by kernel_rfl) ?_
  intro v3 I3 w3 F3 le3 h3 s
  replace hk := D1.mono le3 hk
  replace hk2 := D2.mono le3 hk2
  refine ops_rule (C := []) [((φ1 0), .cells #[.bool false, .pointer (some ⟨k, 0, none⟩)] 26)] F3 1 [] 0 (fun φ4 => [(2, v3)]) (fun φ4 => [((φ1 0), .cells #[.bool false, .pointer (some ⟨k, 0, none⟩)] 26)]) (fun φ4 => []) s trivial (fun φ4 => by kernel_rfl) ?_
  intro φ4 w4 s
  refine ops_done (by kernel_rfl) ?_
  refine wp_ret ?_
  refine ret_rule (C := []) [((φ1 0), .cells #[.bool false, .pointer (some ⟨k, 0, none⟩)] 26)] F3 (v3) [] [] s trivial (by kernel_rfl) ?_
  replace s := s.drop (List.sublist_append_right [((φ1 0), .cells #[.bool false, .pointer (some ⟨k, 0, none⟩)] 26)] F3)
  exact ⟨_, _, _, rfl, s, h3⟩

set_option maxHeartbeats 1000000 in
theorem measure_c {I : IM} {k k2 : Nat} (hk : D1 I k k2) (hk2 : D2 I k2) : Fun Try.prog 16 #[.agg #[.bool false, .pointer (some ⟨k, 0, none⟩)]] I (fun v J => v = .complex .f64 4604930618986332160 4611686018427387904) := by
  refine enter_rule 20 [(0, .agg #[.bool false, .pointer (some ⟨k, 0, none⟩)])] Try.func16 rfl (by kernel_rfl) ?_
  intro w s
  refine wp_seq ?_
  refine region_rule ?_
  refine ops_rule (C := []) [] [] 2 [] 1 (fun φ1 => [(2, .complex .f64 0 0), (1, .pointer (some ⟨(φ1 0), 0, none⟩))]) (fun φ1 => [((φ1 0), .cells #[.bool false, .pointer (some ⟨k, 0, none⟩)] 26)]) (fun φ1 => []) s trivial (fun φ1 => by kernel_rfl) ?_
  intro φ1 w1 s
  refine ops_done (by kernel_rfl) ?_
  refine wp_seq ?_
  refine region_rule ?_
  refine ops_rule (C := []) [((φ1 0), .cells #[.bool false, .pointer (some ⟨k, 0, none⟩)] 26)] [] 1 [] 0 (fun φ2 => [(3, .complex .f64 0 0)]) (fun φ2 => [((φ1 0), .cells #[.bool false, .pointer (some ⟨k, 0, none⟩)] 26)]) (fun φ2 => []) s trivial (fun φ2 => by kernel_rfl) ?_
  intro φ2 w2 s
  refine ops_done (by kernel_rfl) ?_
  refine wp_seq ?_
  refine wp_seq ?_
  refine region_rule ?_
  refine ops_rule (C := []) [((φ1 0), .cells #[.bool false, .pointer (some ⟨k, 0, none⟩)] 26)] [] 1 [.o 0, .o 0] 0 (fun φ3 => [(6, .agg #[.bool false, .pointer (some ⟨k, 0, none⟩)])]) (fun φ3 => [((φ1 0), .cells #[.bool false, .pointer (some ⟨k, 0, none⟩)] 26)]) (fun φ3 => [(φ1 0), (φ1 0)]) s trivial (fun φ3 => by kernel_rfl) ?_
  intro φ3 w3 s
  refine callF_rule (H := [((φ1 0), .cells #[.bool false, .pointer (some ⟨k, 0, none⟩)] 26)]) (F := []) (some 7) s (spans_c hk hk2) (by kernel_rfl) ?_
  intro v4 I4 w4 F4 le4 h4 s
  replace hk := D1.mono le4 hk
  replace hk2 := D2.mono le4 hk2
  obtain ⟨g4, cap4, rfl⟩ := row_some h4 (by decide)
  refine ops_rule (C := []) [((φ1 0), .cells #[.bool false, .pointer (some ⟨k, 0, none⟩)] 26)] F4 2 [] 0 (fun φ5 => [(9, .int .i64 0), (8, .int .i64 2)]) (fun φ5 => [((φ1 0), .cells #[.bool false, .pointer (some ⟨k, 0, none⟩)] 26)]) (fun φ5 => []) s trivial (fun φ5 => by kernel_rfl) ?_
  intro φ5 w5 s
  refine ops_done (by kernel_rfl) ?_
  refine wp_block ?_
  refine Go.wp_loop_rounds 3 ?_
  refine rounds_step (n := 2) ?_
  refine wp_seq ?_
  refine region_rule ?_
  refine ops_rule (C := []) [((φ1 0), .cells #[.bool false, .pointer (some ⟨k, 0, none⟩)] 26)] F4 1 [] 0 (fun φ6 => [(10, .bool true)]) (fun φ6 => [((φ1 0), .cells #[.bool false, .pointer (some ⟨k, 0, none⟩)] 26)]) (fun φ6 => []) s trivial (fun φ6 => by kernel_rfl) ?_
  intro φ6 w6 s
  refine ops_done (by kernel_rfl) ?_
  refine wp_seq ?_
  refine cond_true_rule (b := true) (by kernel_rfl) rfl ?_
  refine wp_skip ?_
  refine wp_seq ?_
  refine wp_block ?_
  refine wp_seq ?_
  refine region_rule ?_
  refine sem_rule (Instr.indexAt 30 (.slice (some ⟨g4, 0, none⟩) 2 cap4) (.int .i64 ((0 : Nat) : Int))) (some 11) (.pointer (some ⟨g4, 0, none⟩)) (by kernel_rfl) (run_idx30 (by decide)) ?_
  refine sem_rule (Instr.loadAt 35 (.pointer (some ⟨g4, 0, none⟩))) (some 12) (.complex .f64 0 4602678819172646912) (by kernel_rfl) (run_load35 (row_cell (H := [((φ1 0), .cells #[.bool false, .pointer (some ⟨k, 0, none⟩)] 26)]) (F := F4) s h4 rfl)) ?_
  refine ops_rule (C := []) [((φ1 0), .cells #[.bool false, .pointer (some ⟨k, 0, none⟩)] 26)] F4 1 [] 0 (fun φ7 => [(5, .complex .f64 0 4602678819172646912)]) (fun φ7 => [((φ1 0), .cells #[.bool false, .pointer (some ⟨k, 0, none⟩)] 26)]) (fun φ7 => []) s trivial (fun φ7 => by kernel_rfl) ?_
  intro φ7 w7 s
  refine ops_done (by kernel_rfl) ?_
  refine region_rule ?_
  refine ops_rule (C := []) [((φ1 0), .cells #[.bool false, .pointer (some ⟨k, 0, none⟩)] 26)] F4 2 [] 0 (fun φ8 => [(14, .complex .f64 0 4602678819172646912), (13, .complex .f64 0 0)]) (fun φ8 => [((φ1 0), .cells #[.bool false, .pointer (some ⟨k, 0, none⟩)] 26)]) (fun φ8 => []) s trivial (fun φ8 => by kernel_rfl) ?_
  intro φ8 w8 s
  refine sem_rule (Builtin.imag_ #[35] 37 #[.complex .f64 0 4602678819172646912]) (some 15) (.float .f64 4602678819172646912) (by kernel_rfl) ((by kernel_rfl : ((Builtin.imag_ #[35] 37 #[.complex .f64 0 4602678819172646912]) : Sem Value).run Try.prog w8 = .ok (.float .f64 4602678819172646912) w8)) ?_
  refine sem_rule (Builtin.complex_ #[37, 37] 35 #[.float .f64 4602678819172646912, .float .f64 4607182418800017408]) (some 16) (.complex .f64 4602678819172646912 4607182418800017408) (by kernel_rfl) ((by kernel_rfl : ((Builtin.complex_ #[37, 37] 35 #[.float .f64 4602678819172646912, .float .f64 4607182418800017408]) : Sem Value).run Try.prog w8 = .ok (.complex .f64 4602678819172646912 4607182418800017408) w8)) ?_
  refine sem_rule (binOp .add 35 (.complex .f64 0 0) (.complex .f64 4602678819172646912 4607182418800017408)) (some 17) (.complex .f64 4602678819172646912 4607182418800017408) (by kernel_rfl) ((by kernel_rfl : ((binOp .add 35 (.complex .f64 0 0) (.complex .f64 4602678819172646912 4607182418800017408)) : Sem Value).run Try.prog w8 = .ok (.complex .f64 4602678819172646912 4607182418800017408) w8)) ?_
  refine ops_rule (C := []) [((φ1 0), .cells #[.bool false, .pointer (some ⟨k, 0, none⟩)] 26)] F4 1 [] 0 (fun φ9 => [(3, .complex .f64 4602678819172646912 4607182418800017408)]) (fun φ9 => [((φ1 0), .cells #[.bool false, .pointer (some ⟨k, 0, none⟩)] 26)]) (fun φ9 => []) s trivial (fun φ9 => by kernel_rfl) ?_
  intro φ9 w9 s
  refine ops_done (by kernel_rfl) ?_
  refine region_rule ?_
  refine ops_rule (C := []) [((φ1 0), .cells #[.bool false, .pointer (some ⟨k, 0, none⟩)] 26)] F4 2 [] 0 (fun φ10 => [(9, .int .i64 1), (18, .int .i64 1)]) (fun φ10 => [((φ1 0), .cells #[.bool false, .pointer (some ⟨k, 0, none⟩)] 26)]) (fun φ10 => []) s trivial (fun φ10 => by kernel_rfl) ?_
  intro φ10 w10 s
  refine ops_done (by kernel_rfl) ?_
  refine rounds_step (n := 1) ?_
  refine wp_seq ?_
  refine region_rule ?_
  refine ops_rule (C := []) [((φ1 0), .cells #[.bool false, .pointer (some ⟨k, 0, none⟩)] 26)] F4 1 [] 0 (fun φ11 => [(10, .bool true)]) (fun φ11 => [((φ1 0), .cells #[.bool false, .pointer (some ⟨k, 0, none⟩)] 26)]) (fun φ11 => []) s trivial (fun φ11 => by kernel_rfl) ?_
  intro φ11 w11 s
  refine ops_done (by kernel_rfl) ?_
  refine wp_seq ?_
  refine cond_true_rule (b := true) (by kernel_rfl) rfl ?_
  refine wp_skip ?_
  refine wp_seq ?_
  refine wp_block ?_
  refine wp_seq ?_
  refine region_rule ?_
  refine sem_rule (Instr.indexAt 30 (.slice (some ⟨g4, 0, none⟩) 2 cap4) (.int .i64 ((1 : Nat) : Int))) (some 11) (.pointer (some ⟨g4, 1, none⟩)) (by kernel_rfl) (run_idx30 (by decide)) ?_
  refine sem_rule (Instr.loadAt 35 (.pointer (some ⟨g4, 1, none⟩))) (some 12) (.complex .f64 4604930618986332160 4598175219545276416) (by kernel_rfl) (run_load35 (row_cell (H := [((φ1 0), .cells #[.bool false, .pointer (some ⟨k, 0, none⟩)] 26)]) (F := F4) s h4 rfl)) ?_
  refine ops_rule (C := []) [((φ1 0), .cells #[.bool false, .pointer (some ⟨k, 0, none⟩)] 26)] F4 1 [] 0 (fun φ12 => [(5, .complex .f64 4604930618986332160 4598175219545276416)]) (fun φ12 => [((φ1 0), .cells #[.bool false, .pointer (some ⟨k, 0, none⟩)] 26)]) (fun φ12 => []) s trivial (fun φ12 => by kernel_rfl) ?_
  intro φ12 w12 s
  refine ops_done (by kernel_rfl) ?_
  refine region_rule ?_
  refine ops_rule (C := []) [((φ1 0), .cells #[.bool false, .pointer (some ⟨k, 0, none⟩)] 26)] F4 2 [] 0 (fun φ13 => [(14, .complex .f64 4604930618986332160 4598175219545276416), (13, .complex .f64 4602678819172646912 4607182418800017408)]) (fun φ13 => [((φ1 0), .cells #[.bool false, .pointer (some ⟨k, 0, none⟩)] 26)]) (fun φ13 => []) s trivial (fun φ13 => by kernel_rfl) ?_
  intro φ13 w13 s
  refine sem_rule (Builtin.imag_ #[35] 37 #[.complex .f64 4604930618986332160 4598175219545276416]) (some 15) (.float .f64 4598175219545276416) (by kernel_rfl) ((by kernel_rfl : ((Builtin.imag_ #[35] 37 #[.complex .f64 4604930618986332160 4598175219545276416]) : Sem Value).run Try.prog w13 = .ok (.float .f64 4598175219545276416) w13)) ?_
  refine sem_rule (Builtin.complex_ #[37, 37] 35 #[.float .f64 4598175219545276416, .float .f64 4607182418800017408]) (some 16) (.complex .f64 4598175219545276416 4607182418800017408) (by kernel_rfl) ((by kernel_rfl : ((Builtin.complex_ #[37, 37] 35 #[.float .f64 4598175219545276416, .float .f64 4607182418800017408]) : Sem Value).run Try.prog w13 = .ok (.complex .f64 4598175219545276416 4607182418800017408) w13)) ?_
  refine sem_rule (binOp .add 35 (.complex .f64 4602678819172646912 4607182418800017408) (.complex .f64 4598175219545276416 4607182418800017408)) (some 17) (.complex .f64 4604930618986332160 4611686018427387904) (by kernel_rfl) ((by kernel_rfl : ((binOp .add 35 (.complex .f64 4602678819172646912 4607182418800017408) (.complex .f64 4598175219545276416 4607182418800017408)) : Sem Value).run Try.prog w13 = .ok (.complex .f64 4604930618986332160 4611686018427387904) w13)) ?_
  refine ops_rule (C := []) [((φ1 0), .cells #[.bool false, .pointer (some ⟨k, 0, none⟩)] 26)] F4 1 [] 0 (fun φ14 => [(3, .complex .f64 4604930618986332160 4611686018427387904)]) (fun φ14 => [((φ1 0), .cells #[.bool false, .pointer (some ⟨k, 0, none⟩)] 26)]) (fun φ14 => []) s trivial (fun φ14 => by kernel_rfl) ?_
  intro φ14 w14 s
  refine ops_done (by kernel_rfl) ?_
  refine region_rule ?_
  refine ops_rule (C := []) [((φ1 0), .cells #[.bool false, .pointer (some ⟨k, 0, none⟩)] 26)] F4 2 [] 0 (fun φ15 => [(9, .int .i64 2), (18, .int .i64 2)]) (fun φ15 => [((φ1 0), .cells #[.bool false, .pointer (some ⟨k, 0, none⟩)] 26)]) (fun φ15 => []) s trivial (fun φ15 => by kernel_rfl) ?_
  intro φ15 w15 s
  refine ops_done (by kernel_rfl) ?_
  refine rounds_step (n := 0) ?_
  refine wp_seq ?_
  refine region_rule ?_
  refine ops_rule (C := []) [((φ1 0), .cells #[.bool false, .pointer (some ⟨k, 0, none⟩)] 26)] F4 1 [] 0 (fun φ16 => [(10, .bool false)]) (fun φ16 => [((φ1 0), .cells #[.bool false, .pointer (some ⟨k, 0, none⟩)] 26)]) (fun φ16 => []) s trivial (fun φ16 => by kernel_rfl) ?_
  intro φ16 w16 s
  refine ops_done (by kernel_rfl) ?_
  refine wp_seq ?_
  refine cond_false_rule (b := false) (by kernel_rfl) rfl ?_
  refine wp_exit ?_
  refine wp_seq ?_
  refine region_rule ?_
  refine ops_rule (C := []) [((φ1 0), .cells #[.bool false, .pointer (some ⟨k, 0, none⟩)] 26)] F4 2 [] 0 (fun φ17 => [(2, .complex .f64 4604930618986332160 4611686018427387904), (19, .complex .f64 4604930618986332160 4611686018427387904)]) (fun φ17 => [((φ1 0), .cells #[.bool false, .pointer (some ⟨k, 0, none⟩)] 26)]) (fun φ17 => []) s trivial (fun φ17 => by kernel_rfl) ?_
  intro φ17 w17 s
  refine ops_done (by kernel_rfl) ?_
  refine wp_ret ?_
  refine ret_rule (C := []) [((φ1 0), .cells #[.bool false, .pointer (some ⟨k, 0, none⟩)] 26)] F4 (.complex .f64 4604930618986332160 4611686018427387904) [] [] s trivial (by kernel_rfl) ?_
  exact ⟨_, _, _, rfl, s, rfl⟩

set_option maxHeartbeats 1000000 in
theorem awakeS_c {I : IM} : Fun Try.prog 8 #[] I (fun v J => v = .bool true) := by
  refine enter_rule 34 [] Try.func8 rfl (by kernel_rfl) ?_
  intro w s
  refine wp_seq ?_
  refine region_rule ?_
  refine ops_rule (C := []) [] [] 1 [] 0 (fun φ1 => [(0, .bool false)]) (fun φ1 => []) (fun φ1 => []) s trivial (fun φ1 => by kernel_rfl) ?_
  intro φ1 w1 s
  refine ops_done (by kernel_rfl) ?_
  refine wp_seq ?_
  refine region_rule ?_
  refine call_rule (some 5) s (parseK_c) (by kernel_rfl) ?_
  intro v2 I2 w2 le2 h2 s
  obtain ⟨k2, k22, rfl, h2_0, h2_1⟩ := h2
  refine ops_rule (C := []) [] [] 6 [.o 0, .o 0] 1 (fun φ3 => [(2, .int .i64 0), (1, .pointer (some ⟨(φ3 0), 0, none⟩)), (7, .int .i64 0), (6, .agg #[.bool false, .pointer (some ⟨k2, 0, none⟩)]), (4, .tuple #[.agg #[.bool false, .pointer (some ⟨k2, 0, none⟩)], .int .i64 0])]) (fun φ3 => [((φ3 0), .cells #[.bool false, .pointer (some ⟨k2, 0, none⟩)] 26)]) (fun φ3 => [(φ3 0), (φ3 0)]) s trivial (fun φ3 => by kernel_rfl) ?_
  intro φ3 w3 s
  refine ops_done (by kernel_rfl) ?_
  refine wp_seq ?_
  refine region_rule ?_
  refine ops_rule (C := []) [((φ3 0), .cells #[.bool false, .pointer (some ⟨k2, 0, none⟩)] 26)] [] 1 [.o 0, .o 0] 0 (fun φ4 => [(8, .agg #[.bool false, .pointer (some ⟨k2, 0, none⟩)])]) (fun φ4 => [((φ3 0), .cells #[.bool false, .pointer (some ⟨k2, 0, none⟩)] 26)]) (fun φ4 => [(φ3 0), (φ3 0)]) s trivial (fun φ4 => by kernel_rfl) ?_
  intro φ4 w4 s
  refine callF_rule (H := [((φ3 0), .cells #[.bool false, .pointer (some ⟨k2, 0, none⟩)] 26)]) (F := []) (some 9) s (spans_c h2_0 h2_1) (by kernel_rfl) ?_
  intro v5 I5 w5 F5 le5 h5 s
  replace h2_0 := D1.mono le5 h2_0
  replace h2_1 := D2.mono le5 h2_1
  obtain ⟨g5, cap5, rfl⟩ := row_some h5 (by decide)
  refine ops_rule (C := []) [((φ3 0), .cells #[.bool false, .pointer (some ⟨k2, 0, none⟩)] 26)] F5 1 [] 0 (fun φ6 => [(3, .slice (some ⟨g5, 0, none⟩) 2 cap5)]) (fun φ6 => [((φ3 0), .cells #[.bool false, .pointer (some ⟨k2, 0, none⟩)] 26)]) (fun φ6 => []) s trivial (fun φ6 => by kernel_rfl) ?_
  intro φ6 w6 s
  refine ops_done (by kernel_rfl) ?_
  refine wp_seq ?_
  refine region_rule ?_
  refine ops_rule (C := []) [((φ3 0), .cells #[.bool false, .pointer (some ⟨k2, 0, none⟩)] 26)] F5 9 [] 0 (fun φ7 => [(18, .slice (some ⟨g5, 0, none⟩) 2 cap5), (17, .bool true), (16, .bool true), (15, .bool true), (14, .int .i64 2), (13, .slice (some ⟨g5, 0, none⟩) 2 cap5), (12, .bool true), (11, .bool true), (10, .int .i64 0)]) (fun φ7 => [((φ3 0), .cells #[.bool false, .pointer (some ⟨k2, 0, none⟩)] 26)]) (fun φ7 => []) s trivial (fun φ7 => by kernel_rfl) ?_
  intro φ7 w7 s
  refine sem_rule (Instr.indexAt 30 (.slice (some ⟨g5, 0, none⟩) 2 cap5) (.int .i64 ((0 : Nat) : Int))) (some 19) (.pointer (some ⟨g5, 0, none⟩)) (by kernel_rfl) (run_idx30 (by decide)) ?_
  refine sem_rule (Instr.loadAt 35 (.pointer (some ⟨g5, 0, none⟩))) (some 20) (.complex .f64 0 4602678819172646912) (by kernel_rfl) (run_load35 (row_cell (H := [((φ3 0), .cells #[.bool false, .pointer (some ⟨k2, 0, none⟩)] 26)]) (F := F5) s h5 rfl)) ?_
  refine sem_rule (binOp .eql 35 (.complex .f64 0 4602678819172646912) (.complex .f64 0 4602678819172646912)) (some 21) (.bool true) (by kernel_rfl) ((by kernel_rfl : ((binOp .eql 35 (.complex .f64 0 4602678819172646912) (.complex .f64 0 4602678819172646912)) : Sem Value).run Try.prog w7 = .ok (.bool true) w7)) ?_
  refine ops_rule (C := []) [((φ3 0), .cells #[.bool false, .pointer (some ⟨k2, 0, none⟩)] 26)] F5 3 [] 0 (fun φ8 => [(24, .slice (some ⟨g5, 0, none⟩) 2 cap5), (23, .bool true), (22, .bool true)]) (fun φ8 => [((φ3 0), .cells #[.bool false, .pointer (some ⟨k2, 0, none⟩)] 26)]) (fun φ8 => []) s trivial (fun φ8 => by kernel_rfl) ?_
  intro φ8 w8 s
  refine sem_rule (Instr.indexAt 30 (.slice (some ⟨g5, 0, none⟩) 2 cap5) (.int .i64 ((1 : Nat) : Int))) (some 25) (.pointer (some ⟨g5, 1, none⟩)) (by kernel_rfl) (run_idx30 (by decide)) ?_
  refine sem_rule (Instr.loadAt 35 (.pointer (some ⟨g5, 1, none⟩))) (some 26) (.complex .f64 4604930618986332160 4598175219545276416) (by kernel_rfl) (run_load35 (row_cell (H := [((φ3 0), .cells #[.bool false, .pointer (some ⟨k2, 0, none⟩)] 26)]) (F := F5) s h5 rfl)) ?_
  refine sem_rule (binOp .eql 35 (.complex .f64 4604930618986332160 4598175219545276416) (.complex .f64 4604930618986332160 4598175219545276416)) (some 27) (.bool true) (by kernel_rfl) ((by kernel_rfl : ((binOp .eql 35 (.complex .f64 4604930618986332160 4598175219545276416) (.complex .f64 4604930618986332160 4598175219545276416)) : Sem Value).run Try.prog w8 = .ok (.bool true) w8)) ?_
  refine ops_rule (C := []) [((φ3 0), .cells #[.bool false, .pointer (some ⟨k2, 0, none⟩)] 26)] F5 3 [.o 0, .o 0] 0 (fun φ9 => [(30, .agg #[.bool false, .pointer (some ⟨k2, 0, none⟩)]), (29, .bool true), (28, .bool true)]) (fun φ9 => [((φ3 0), .cells #[.bool false, .pointer (some ⟨k2, 0, none⟩)] 26)]) (fun φ9 => [(φ3 0), (φ3 0)]) s trivial (fun φ9 => by kernel_rfl) ?_
  intro φ9 w9 s
  refine call_rule (some 31) s (measure_c h2_0 h2_1) (by kernel_rfl) ?_
  intro v10 I10 w10 le10 h10 s
  replace h2_0 := D1.mono le10 h2_0
  replace h2_1 := D2.mono le10 h2_1
  obtain rfl := h10
  refine sem_rule (binOp .eql 35 (.complex .f64 4604930618986332160 4611686018427387904) (.complex .f64 4604930618986332160 4611686018427387904)) (some 32) (.bool true) (by kernel_rfl) ((by kernel_rfl : ((binOp .eql 35 (.complex .f64 4604930618986332160 4611686018427387904) (.complex .f64 4604930618986332160 4611686018427387904)) : Sem Value).run Try.prog w10 = .ok (.bool true) w10)) ?_
  refine ops_rule (C := []) [((φ3 0), .cells #[.bool false, .pointer (some ⟨k2, 0, none⟩)] 26)] F5 2 [] 0 (fun φ11 => [(0, .bool true), (33, .bool true)]) (fun φ11 => [((φ3 0), .cells #[.bool false, .pointer (some ⟨k2, 0, none⟩)] 26)]) (fun φ11 => []) s trivial (fun φ11 => by kernel_rfl) ?_
  intro φ11 w11 s
  refine ops_done (by kernel_rfl) ?_
  refine wp_ret ?_
  refine ret_rule (C := []) [((φ3 0), .cells #[.bool false, .pointer (some ⟨k2, 0, none⟩)] 26)] F5 (.bool true) [] [] s trivial (by kernel_rfl) ?_
  exact ⟨_, _, _, rfl, s, rfl⟩

theorem shareTurns_c {I : IM} {a c z : Int} : Fun Try.prog 6 #[.int .i32 a, .int .i32 c, .int .i64 z] I (fun v J => v = .bool true) := shareTurns_s (fun {I} => awakeS_c)

end Go.Proofs.Ytgdickihjaomjaa
