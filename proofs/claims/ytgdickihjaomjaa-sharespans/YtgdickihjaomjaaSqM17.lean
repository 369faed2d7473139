/- share: awake -/
import Derived.Test.YtgdickihjaomjaaSqV7
import Derived.Test.YtgdickihjaomjaaSqM15
import Derived.Test.YtgdickihjaomjaaSqS14
import Derived.Test.YtgdickihjaomjaaProg
import Derived.Test.YtgdickihjaomjaaSqS6
set_option linter.all false
set_option maxRecDepth 100000
namespace Go.Proofs.Ytgdickihjaomjaa
open Go.RowKit Go.Sep
attribute [local irreducible] Go.wpList Go.Code.wp
theorem size35 (w : World) : (sizeOf 35).run Try.prog w = .ok 1 w := by kernel_rfl
theorem under30 : Try.prog.underlying 30 = some (.slice 35) := by kernel_rfl
theorem run_idx30 {w : World} {g n c k : Nat} (h : k < n) : (Instr.indexAt 30 (.slice (some ⟨g, 0, none⟩) n c) (.int .i64 ((k : Nat) : Int))).run Try.prog w = .ok (.pointer (some ⟨g, k, none⟩)) w := by
  have h2 : (k : Int) < (n : Int) := by omega
  simp [Instr.indexAt, asIntOf, run_underlying under30, size35, h2, addr_add]
  intro h3; omega
theorem run_load35 {w : World} {g j : Nat} {v : Value} (h : w.cell? ⟨g, j, none⟩ = some v) : (Instr.loadAt 35 (.pointer (some ⟨g, j, none⟩))).run Try.prog w = .ok v w := by
  have e : (Instr.loadAt 35 (.pointer (some ⟨g, j, none⟩))).run Try.prog w = (load ⟨g, j, none⟩).run Try.prog w := by kernel_rfl
  rw [e]; simp only [load, Sem.run, h]

set_option maxHeartbeats 1000000 in
theorem spZ_c {I : IM} {n : Nat} {xs : List Value} {v0 : Value} {F : List OB} (hrow : RowH 35 1 v0 n xs F) (hn : n ≤ 1000) : FunM Try.prog 32 #[v0, .agg #[.bool false, .pointer none], .float .f64 4602678819172646912, .float .f64 4598175219545276416] I F (fun v J F' => RowH 35 1 v n xs F') := by
  refine enterM_rule 37 [(0, v0), (1, .agg #[.bool false, .pointer none]), (2, .float .f64 4602678819172646912), (3, .float .f64 4598175219545276416)] Try.func32 rfl (by kernel_rfl) ?_
  intro w s
  refine wp_seq ?_
  refine region_rule ?_
  refine ops_rule (C := []) [] F 2 [] 1 (fun φ1 => [(8, .slice none 0 0), (5, .pointer (some ⟨(φ1 0), 0, none⟩))]) (fun φ1 => [((φ1 0), .cells #[.bool false, .pointer none] 26)]) (fun φ1 => []) s trivial (fun φ1 => by kernel_rfl) ?_
  intro φ1 w1 s
  refine ops_done (by kernel_rfl) ?_
  refine wp_seq ?_
  refine wp_seq ?_
  refine region_rule ?_
  refine ops_rule (C := []) [((φ1 0), .cells #[.bool false, .pointer none] 26)] F 1 [.o 0, .o 0] 0 (fun φ2 => [(10, .agg #[.bool false, .pointer none])]) (fun φ2 => [((φ1 0), .cells #[.bool false, .pointer none] 26)]) (fun φ2 => [(φ1 0), (φ1 0)]) s trivial (fun φ2 => by kernel_rfl) ?_
  intro φ2 w2 s
  refine call_rule (some 11) s (isZeroZ_c) (by kernel_rfl) ?_
  intro v3 I3 w3 le3 h3 s
  obtain rfl := h3
  refine ops_done (by kernel_rfl) ?_
  refine cond_true_rule (b := true) (by kernel_rfl) rfl ?_
  refine wp_seq ?_
  refine region_rule ?_
  refine ops_rule (C := []) [((φ1 0), .cells #[.bool false, .pointer none] 26)] F 2 [] 0 (fun φ4 => [(8, v0), (12, v0)]) (fun φ4 => [((φ1 0), .cells #[.bool false, .pointer none] 26)]) (fun φ4 => []) s trivial (fun φ4 => by kernel_rfl) ?_
  intro φ4 w4 s
  refine ops_done (by kernel_rfl) ?_
  refine wp_ret ?_
  refine ret_rule (C := []) [((φ1 0), .cells #[.bool false, .pointer none] 26)] F (v0) [] [] s trivial (by kernel_rfl) ?_
  replace s := s.drop (List.sublist_append_right [((φ1 0), .cells #[.bool false, .pointer none] 26)] F)
  exact ⟨_, _, _, rfl, s, hrow⟩

set_option maxHeartbeats 1000000 in
theorem spO1_c {I : IM} {n : Nat} {xs : List Value} {v0 : Value} {F : List OB} (hrow : RowH 35 1 v0 n xs F) (hn : n ≤ 1000) : FunM Try.prog 32 #[v0, .agg #[.bool true, .pointer none], .float .f64 0, .float .f64 4602678819172646912] I F (fun v J F' => RowH 35 1 v (n + 1) (xs ++ [.complex .f64 0 4602678819172646912]) F') := by
  refine enterM_rule 37 [(0, v0), (1, .agg #[.bool true, .pointer none]), (2, .float .f64 0), (3, .float .f64 4602678819172646912)] Try.func32 rfl (by kernel_rfl) ?_
  intro w s
  refine wp_seq ?_
  refine region_rule ?_
  refine ops_rule (C := []) [] F 2 [] 1 (fun φ1 => [(8, .slice none 0 0), (5, .pointer (some ⟨(φ1 0), 0, none⟩))]) (fun φ1 => [((φ1 0), .cells #[.bool true, .pointer none] 26)]) (fun φ1 => []) s trivial (fun φ1 => by kernel_rfl) ?_
  intro φ1 w1 s
  refine ops_done (by kernel_rfl) ?_
  refine wp_seq ?_
  refine wp_seq ?_
  refine region_rule ?_
  refine ops_rule (C := []) [((φ1 0), .cells #[.bool true, .pointer none] 26)] F 1 [.o 0, .o 0] 0 (fun φ2 => [(10, .agg #[.bool true, .pointer none])]) (fun φ2 => [((φ1 0), .cells #[.bool true, .pointer none] 26)]) (fun φ2 => [(φ1 0), (φ1 0)]) s trivial (fun φ2 => by kernel_rfl) ?_
  intro φ2 w2 s
  refine call_rule (some 11) s (isZeroO_c) (by kernel_rfl) ?_
  intro v3 I3 w3 le3 h3 s
  obtain rfl := h3
  refine ops_done (by kernel_rfl) ?_
  refine cond_false_rule (b := false) (by kernel_rfl) rfl ?_
  refine wp_skip ?_
  refine wp_seq ?_
  refine wp_seq ?_
  refine region_rule ?_
  refine ops_rule (C := []) [((φ1 0), .cells #[.bool true, .pointer none] 26)] F 1 [.o 0, .o 0] 0 (fun φ4 => [(13, .agg #[.bool true, .pointer none])]) (fun φ4 => [((φ1 0), .cells #[.bool true, .pointer none] 26)]) (fun φ4 => [(φ1 0), (φ1 0)]) s trivial (fun φ4 => by kernel_rfl) ?_
  intro φ4 w4 s
  refine call_rule (some 14) s (isOneO_c) (by kernel_rfl) ?_
  intro v5 I5 w5 le5 h5 s
  obtain rfl := h5
  refine ops_done (by kernel_rfl) ?_
  refine cond_true_rule (b := true) (by kernel_rfl) rfl ?_
  refine wp_seq ?_
  refine region_rule ?_
  refine ops_rule (C := []) [((φ1 0), .cells #[.bool true, .pointer none] 26)] F 3 [] 0 (fun φ6 => [(17, .float .f64 4602678819172646912), (16, .float .f64 0), (15, v0)]) (fun φ6 => [((φ1 0), .cells #[.bool true, .pointer none] 26)]) (fun φ6 => []) s trivial (fun φ6 => by kernel_rfl) ?_
  intro φ6 w6 s
  refine sem_rule (Builtin.complex_ #[37, 37] 35 #[.float .f64 0, .float .f64 4602678819172646912]) (some 18) (.complex .f64 0 4602678819172646912) (by kernel_rfl) ((by kernel_rfl : ((Builtin.complex_ #[37, 37] 35 #[.float .f64 0, .float .f64 4602678819172646912]) : Sem Value).run Try.prog w6 = .ok (.complex .f64 0 4602678819172646912) w6)) ?_
  refine ops_rule (C := []) [((φ1 0), .cells #[.bool true, .pointer none] 26)] F 1 [] 1 (fun φ7 => [(19, .slice (some ⟨(φ7 0), 0, none⟩) 1 1)]) (fun φ7 => [((φ1 0), .cells #[.bool true, .pointer none] 26), ((φ7 0), .cells #[.complex .f64 0 4602678819172646912] 35)]) (fun φ7 => []) s trivial (fun φ7 => by kernel_rfl) ?_
  intro φ7 w7 s
  refine append_rule (H := [((φ1 0), .cells #[.bool true, .pointer none] 26), ((φ7 0), .cells #[.complex .f64 0 4602678819172646912] 35)]) (F := F) 30 30 35 Try.t35 (.complex .f64 0 0) 1 16 (some 20) s Try.underlying30 (by kernel_rfl) (by kernel_rfl) (by kernel_rfl) (by kernel_rfl) (by kernel_rfl) (by decide) hrow (src_own s 1 (φ7 0) #[.complex .f64 0 4602678819172646912] 35 30 35 1 1 1 [.complex .f64 0 4602678819172646912] (by kernel_rfl) Try.underlying30 (by kernel_rfl) (by kernel_rfl) (by kernel_rfl)) (by simp only [maxLen]; omega) (by omega) (by kernel_rfl) ?_
  intro v8 w8 F8 s h8
  refine ops_rule (C := []) [((φ1 0), .cells #[.bool true, .pointer none] 26), ((φ7 0), .cells #[.complex .f64 0 4602678819172646912] 35)] F8 1 [] 0 (fun φ9 => [(8, v8)]) (fun φ9 => [((φ1 0), .cells #[.bool true, .pointer none] 26), ((φ7 0), .cells #[.complex .f64 0 4602678819172646912] 35)]) (fun φ9 => []) s trivial (fun φ9 => by kernel_rfl) ?_
  intro φ9 w9 s
  refine ops_done (by kernel_rfl) ?_
  refine wp_ret ?_
  refine ret_rule (C := []) [((φ1 0), .cells #[.bool true, .pointer none] 26), ((φ7 0), .cells #[.complex .f64 0 4602678819172646912] 35)] F8 (v8) [] [] s trivial (by kernel_rfl) ?_
  replace s := s.drop (List.sublist_append_right [((φ1 0), .cells #[.bool true, .pointer none] 26), ((φ7 0), .cells #[.complex .f64 0 4602678819172646912] 35)] F8)
  exact ⟨_, _, _, rfl, s, h8⟩

set_option maxHeartbeats 1000000 in
theorem spO2_c {I : IM} {n : Nat} {xs : List Value} {v0 : Value} {F : List OB} (hrow : RowH 35 1 v0 n xs F) (hn : n ≤ 1000) : FunM Try.prog 32 #[v0, .agg #[.bool true, .pointer none], .float .f64 4604930618986332160, .float .f64 4598175219545276416] I F (fun v J F' => RowH 35 1 v (n + 1) (xs ++ [.complex .f64 4604930618986332160 4598175219545276416]) F') := by
  refine enterM_rule 37 [(0, v0), (1, .agg #[.bool true, .pointer none]), (2, .float .f64 4604930618986332160), (3, .float .f64 4598175219545276416)] Try.func32 rfl (by kernel_rfl) ?_
  intro w s
  refine wp_seq ?_
  refine region_rule ?_
  refine ops_rule (C := []) [] F 2 [] 1 (fun φ1 => [(8, .slice none 0 0), (5, .pointer (some ⟨(φ1 0), 0, none⟩))]) (fun φ1 => [((φ1 0), .cells #[.bool true, .pointer none] 26)]) (fun φ1 => []) s trivial (fun φ1 => by kernel_rfl) ?_
  intro φ1 w1 s
  refine ops_done (by kernel_rfl) ?_
  refine wp_seq ?_
  refine wp_seq ?_
  refine region_rule ?_
  refine ops_rule (C := []) [((φ1 0), .cells #[.bool true, .pointer none] 26)] F 1 [.o 0, .o 0] 0 (fun φ2 => [(10, .agg #[.bool true, .pointer none])]) (fun φ2 => [((φ1 0), .cells #[.bool true, .pointer none] 26)]) (fun φ2 => [(φ1 0), (φ1 0)]) s trivial (fun φ2 => by kernel_rfl) ?_
  intro φ2 w2 s
  refine call_rule (some 11) s (isZeroO_c) (by kernel_rfl) ?_
  intro v3 I3 w3 le3 h3 s
  obtain rfl := h3
  refine ops_done (by kernel_rfl) ?_
  refine cond_false_rule (b := false) (by kernel_rfl) rfl ?_
  refine wp_skip ?_
  refine wp_seq ?_
  refine wp_seq ?_
  refine region_rule ?_
  refine ops_rule (C := []) [((φ1 0), .cells #[.bool true, .pointer none] 26)] F 1 [.o 0, .o 0] 0 (fun φ4 => [(13, .agg #[.bool true, .pointer none])]) (fun φ4 => [((φ1 0), .cells #[.bool true, .pointer none] 26)]) (fun φ4 => [(φ1 0), (φ1 0)]) s trivial (fun φ4 => by kernel_rfl) ?_
  intro φ4 w4 s
  refine call_rule (some 14) s (isOneO_c) (by kernel_rfl) ?_
  intro v5 I5 w5 le5 h5 s
  obtain rfl := h5
  refine ops_done (by kernel_rfl) ?_
  refine cond_true_rule (b := true) (by kernel_rfl) rfl ?_
  refine wp_seq ?_
  refine region_rule ?_
  refine ops_rule (C := []) [((φ1 0), .cells #[.bool true, .pointer none] 26)] F 3 [] 0 (fun φ6 => [(17, .float .f64 4598175219545276416), (16, .float .f64 4604930618986332160), (15, v0)]) (fun φ6 => [((φ1 0), .cells #[.bool true, .pointer none] 26)]) (fun φ6 => []) s trivial (fun φ6 => by kernel_rfl) ?_
  intro φ6 w6 s
  refine sem_rule (Builtin.complex_ #[37, 37] 35 #[.float .f64 4604930618986332160, .float .f64 4598175219545276416]) (some 18) (.complex .f64 4604930618986332160 4598175219545276416) (by kernel_rfl) ((by kernel_rfl : ((Builtin.complex_ #[37, 37] 35 #[.float .f64 4604930618986332160, .float .f64 4598175219545276416]) : Sem Value).run Try.prog w6 = .ok (.complex .f64 4604930618986332160 4598175219545276416) w6)) ?_
  refine ops_rule (C := []) [((φ1 0), .cells #[.bool true, .pointer none] 26)] F 1 [] 1 (fun φ7 => [(19, .slice (some ⟨(φ7 0), 0, none⟩) 1 1)]) (fun φ7 => [((φ1 0), .cells #[.bool true, .pointer none] 26), ((φ7 0), .cells #[.complex .f64 4604930618986332160 4598175219545276416] 35)]) (fun φ7 => []) s trivial (fun φ7 => by kernel_rfl) ?_
  intro φ7 w7 s
  refine append_rule (H := [((φ1 0), .cells #[.bool true, .pointer none] 26), ((φ7 0), .cells #[.complex .f64 4604930618986332160 4598175219545276416] 35)]) (F := F) 30 30 35 Try.t35 (.complex .f64 0 0) 1 16 (some 20) s Try.underlying30 (by kernel_rfl) (by kernel_rfl) (by kernel_rfl) (by kernel_rfl) (by kernel_rfl) (by decide) hrow (src_own s 1 (φ7 0) #[.complex .f64 4604930618986332160 4598175219545276416] 35 30 35 1 1 1 [.complex .f64 4604930618986332160 4598175219545276416] (by kernel_rfl) Try.underlying30 (by kernel_rfl) (by kernel_rfl) (by kernel_rfl)) (by simp only [maxLen]; omega) (by omega) (by kernel_rfl) ?_
  intro v8 w8 F8 s h8
  refine ops_rule (C := []) [((φ1 0), .cells #[.bool true, .pointer none] 26), ((φ7 0), .cells #[.complex .f64 4604930618986332160 4598175219545276416] 35)] F8 1 [] 0 (fun φ9 => [(8, v8)]) (fun φ9 => [((φ1 0), .cells #[.bool true, .pointer none] 26), ((φ7 0), .cells #[.complex .f64 4604930618986332160 4598175219545276416] 35)]) (fun φ9 => []) s trivial (fun φ9 => by kernel_rfl) ?_
  intro φ9 w9 s
  refine ops_done (by kernel_rfl) ?_
  refine wp_ret ?_
  refine ret_rule (C := []) [((φ1 0), .cells #[.bool true, .pointer none] 26), ((φ7 0), .cells #[.complex .f64 4604930618986332160 4598175219545276416] 35)] F8 (v8) [] [] s trivial (by kernel_rfl) ?_
  replace s := s.drop (List.sublist_append_right [((φ1 0), .cells #[.bool true, .pointer none] 26), ((φ7 0), .cells #[.complex .f64 4604930618986332160 4598175219545276416] 35)] F8)
  exact ⟨_, _, _, rfl, s, h8⟩

set_option maxHeartbeats 1000000 in
theorem sp2_c {I : IM} {n : Nat} {xs : List Value} {v0 : Value} {F : List OB} {k : Nat} (hk : D2 I k) (hrow : RowH 35 1 v0 n xs F) (hn : n ≤ 950) : FunM Try.prog 32 #[v0, .agg #[.bool false, .pointer (some ⟨k, 0, none⟩)], .float .f64 4602678819172646912, .float .f64 4602678819172646912] I F (fun v J F' => RowH 35 1 v (n + 1) (xs ++ [.complex .f64 4604930618986332160 4598175219545276416]) F') := by
  refine enterM_rule 37 [(0, v0), (1, .agg #[.bool false, .pointer (some ⟨k, 0, none⟩)]), (2, .float .f64 4602678819172646912), (3, .float .f64 4602678819172646912)] Try.func32 rfl (by kernel_rfl) ?_
  intro w s
  refine wp_seq ?_
  refine region_rule ?_
  refine ops_rule (C := []) [] F 2 [] 1 (fun φ1 => [(8, .slice none 0 0), (5, .pointer (some ⟨(φ1 0), 0, none⟩))]) (fun φ1 => [((φ1 0), .cells #[.bool false, .pointer (some ⟨k, 0, none⟩)] 26)]) (fun φ1 => []) s trivial (fun φ1 => by kernel_rfl) ?_
  intro φ1 w1 s
  refine ops_done (by kernel_rfl) ?_
  refine wp_seq ?_
  refine wp_seq ?_
  refine region_rule ?_
  refine ops_rule (C := []) [((φ1 0), .cells #[.bool false, .pointer (some ⟨k, 0, none⟩)] 26)] F 1 [.o 0, .o 0] 0 (fun φ2 => [(10, .agg #[.bool false, .pointer (some ⟨k, 0, none⟩)])]) (fun φ2 => [((φ1 0), .cells #[.bool false, .pointer (some ⟨k, 0, none⟩)] 26)]) (fun φ2 => [(φ1 0), (φ1 0)]) s trivial (fun φ2 => by kernel_rfl) ?_
  intro φ2 w2 s
  refine call_rule (some 11) s (isZero2_c (k := k) hk) (by kernel_rfl) ?_
  intro v3 I3 w3 le3 h3 s
  replace hk := D2.mono le3 hk
  obtain rfl := h3
  refine ops_done (by kernel_rfl) ?_
  refine cond_false_rule (b := false) (by kernel_rfl) rfl ?_
  refine wp_skip ?_
  refine wp_seq ?_
  refine wp_seq ?_
  refine region_rule ?_
  refine ops_rule (C := []) [((φ1 0), .cells #[.bool false, .pointer (some ⟨k, 0, none⟩)] 26)] F 1 [.o 0, .o 0] 0 (fun φ4 => [(13, .agg #[.bool false, .pointer (some ⟨k, 0, none⟩)])]) (fun φ4 => [((φ1 0), .cells #[.bool false, .pointer (some ⟨k, 0, none⟩)] 26)]) (fun φ4 => [(φ1 0), (φ1 0)]) s trivial (fun φ4 => by kernel_rfl) ?_
  intro φ4 w4 s
  refine call_rule (some 14) s (isOne2_c (k := k) hk) (by kernel_rfl) ?_
  intro v5 I5 w5 le5 h5 s
  replace hk := D2.mono le5 hk
  obtain rfl := h5
  refine ops_done (by kernel_rfl) ?_
  refine cond_false_rule (b := false) (by kernel_rfl) rfl ?_
  refine wp_skip ?_
  refine wp_seq ?_
  refine region_rule ?_
  refine ops_rule (C := []) [((φ1 0), .cells #[.bool false, .pointer (some ⟨k, 0, none⟩)] 26)] F 1 [] 0 (fun φ6 => [(21, .float .f64 4602678819172646912)]) (fun φ6 => [((φ1 0), .cells #[.bool false, .pointer (some ⟨k, 0, none⟩)] 26)]) (fun φ6 => []) s trivial (fun φ6 => by kernel_rfl) ?_
  intro φ6 w6 s
  refine sem_rule (binOp .quo 37 (.float .f64 4602678819172646912) (.float .f64 4611686018427387904)) (some 22) (.float .f64 4598175219545276416) (by kernel_rfl) ((by kernel_rfl : ((binOp .quo 37 (.float .f64 4602678819172646912) (.float .f64 4611686018427387904)) : Sem Value).run Try.prog w6 = .ok (.float .f64 4598175219545276416) w6)) ?_
  refine ops_rule (C := []) [((φ1 0), .cells #[.bool false, .pointer (some ⟨k, 0, none⟩)] 26)] F 1 [] 0 (fun φ7 => [(9, .float .f64 4598175219545276416)]) (fun φ7 => [((φ1 0), .cells #[.bool false, .pointer (some ⟨k, 0, none⟩)] 26)]) (fun φ7 => []) s trivial (fun φ7 => by kernel_rfl) ?_
  intro φ7 w7 s
  refine ops_done (by kernel_rfl) ?_
  refine wp_seq ?_
  refine region_rule ?_
  refine ops_rule (C := []) [((φ1 0), .cells #[.bool false, .pointer (some ⟨k, 0, none⟩)] 26)] F 2 [.o 0, .o 0] 0 (fun φ8 => [(24, .agg #[.bool false, .pointer (some ⟨k, 0, none⟩)]), (23, v0)]) (fun φ8 => [((φ1 0), .cells #[.bool false, .pointer (some ⟨k, 0, none⟩)] 26)]) (fun φ8 => [(φ1 0), (φ1 0)]) s trivial (fun φ8 => by kernel_rfl) ?_
  intro φ8 w8 s
  refine call_rule (some 25) s (left2_c (k := k) hk) (by kernel_rfl) ?_
  intro v9 I9 w9 le9 h9 s
  replace hk := D2.mono le9 hk
  obtain rfl := h9
  refine ops_rule (C := []) [((φ1 0), .cells #[.bool false, .pointer (some ⟨k, 0, none⟩)] 26)] F 2 [] 0 (fun φ10 => [(27, .float .f64 4598175219545276416), (26, .float .f64 4602678819172646912)]) (fun φ10 => [((φ1 0), .cells #[.bool false, .pointer (some ⟨k, 0, none⟩)] 26)]) (fun φ10 => []) s trivial (fun φ10 => by kernel_rfl) ?_
  intro φ10 w10 s
  refine callF_rule (H := [((φ1 0), .cells #[.bool false, .pointer (some ⟨k, 0, none⟩)] 26)]) (F := F) (some 28) s (spZ_c (n := n) (xs := xs) hrow (by omega)) (by kernel_rfl) ?_
  intro v11 I11 w11 F11 le11 h11 s
  replace hk := D2.mono le11 hk
  refine ops_rule (C := []) [((φ1 0), .cells #[.bool false, .pointer (some ⟨k, 0, none⟩)] 26)] F11 1 [] 0 (fun φ12 => [(0, v11)]) (fun φ12 => [((φ1 0), .cells #[.bool false, .pointer (some ⟨k, 0, none⟩)] 26)]) (fun φ12 => []) s trivial (fun φ12 => by kernel_rfl) ?_
  intro φ12 w12 s
  refine ops_done (by kernel_rfl) ?_
  refine wp_seq ?_
  refine region_rule ?_
  refine ops_rule (C := []) [((φ1 0), .cells #[.bool false, .pointer (some ⟨k, 0, none⟩)] 26)] F11 2 [.o 0, .o 0] 0 (fun φ13 => [(30, .agg #[.bool false, .pointer (some ⟨k, 0, none⟩)]), (29, v11)]) (fun φ13 => [((φ1 0), .cells #[.bool false, .pointer (some ⟨k, 0, none⟩)] 26)]) (fun φ13 => [(φ1 0), (φ1 0)]) s trivial (fun φ13 => by kernel_rfl) ?_
  intro φ13 w13 s
  refine call_rule (some 31) s (right2_c (k := k) hk) (by kernel_rfl) ?_
  intro v14 I14 w14 le14 h14 s
  replace hk := D2.mono le14 hk
  obtain rfl := h14
  refine ops_rule (C := []) [((φ1 0), .cells #[.bool false, .pointer (some ⟨k, 0, none⟩)] 26)] F11 2 [] 0 (fun φ15 => [(33, .float .f64 4598175219545276416), (32, .float .f64 4602678819172646912)]) (fun φ15 => [((φ1 0), .cells #[.bool false, .pointer (some ⟨k, 0, none⟩)] 26)]) (fun φ15 => []) s trivial (fun φ15 => by kernel_rfl) ?_
  intro φ15 w15 s
  refine sem_rule (binOp .add 37 (.float .f64 4602678819172646912) (.float .f64 4598175219545276416)) (some 34) (.float .f64 4604930618986332160) (by kernel_rfl) ((by kernel_rfl : ((binOp .add 37 (.float .f64 4602678819172646912) (.float .f64 4598175219545276416)) : Sem Value).run Try.prog w15 = .ok (.float .f64 4604930618986332160) w15)) ?_
  refine ops_rule (C := []) [((φ1 0), .cells #[.bool false, .pointer (some ⟨k, 0, none⟩)] 26)] F11 1 [] 0 (fun φ16 => [(35, .float .f64 4598175219545276416)]) (fun φ16 => [((φ1 0), .cells #[.bool false, .pointer (some ⟨k, 0, none⟩)] 26)]) (fun φ16 => []) s trivial (fun φ16 => by kernel_rfl) ?_
  intro φ16 w16 s
  refine callF_rule (H := [((φ1 0), .cells #[.bool false, .pointer (some ⟨k, 0, none⟩)] 26)]) (F := F11) (some 36) s (spO2_c (n := n) (xs := xs) h11 (by omega)) (by kernel_rfl) ?_
  intro v17 I17 w17 F17 le17 h17 s
  replace hk := D2.mono le17 hk
  refine ops_rule (C := []) [((φ1 0), .cells #[.bool false, .pointer (some ⟨k, 0, none⟩)] 26)] F17 1 [] 0 (fun φ18 => [(8, v17)]) (fun φ18 => [((φ1 0), .cells #[.bool false, .pointer (some ⟨k, 0, none⟩)] 26)]) (fun φ18 => []) s trivial (fun φ18 => by kernel_rfl) ?_
  intro φ18 w18 s
  refine ops_done (by kernel_rfl) ?_
  refine wp_ret ?_
  refine ret_rule (C := []) [((φ1 0), .cells #[.bool false, .pointer (some ⟨k, 0, none⟩)] 26)] F17 (v17) [] [] s trivial (by kernel_rfl) ?_
  replace s := s.drop (List.sublist_append_right [((φ1 0), .cells #[.bool false, .pointer (some ⟨k, 0, none⟩)] 26)] F17)
  exact ⟨_, _, _, rfl, s, h17⟩

set_option maxHeartbeats 1000000 in
theorem sp1_c {I : IM} {n : Nat} {xs : List Value} {v0 : Value} {F : List OB} {k k2 : Nat} (hk : D1 I k k2) (hk2 : D2 I k2) (hrow : RowH 35 1 v0 n xs F) (hn : n ≤ 900) : FunM Try.prog 32 #[v0, .agg #[.bool false, .pointer (some ⟨k, 0, none⟩)], .float .f64 0, .float .f64 4607182418800017408] I F (fun v J F' => RowH 35 1 v (n + 1 + 1) ((xs ++ [.complex .f64 0 4602678819172646912]) ++ [.complex .f64 4604930618986332160 4598175219545276416]) F') := by
  refine enterM_rule 37 [(0, v0), (1, .agg #[.bool false, .pointer (some ⟨k, 0, none⟩)]), (2, .float .f64 0), (3, .float .f64 4607182418800017408)] Try.func32 rfl (by kernel_rfl) ?_
  intro w s
  refine wp_seq ?_
  refine region_rule ?_
  refine ops_rule (C := []) [] F 2 [] 1 (fun φ1 => [(8, .slice none 0 0), (5, .pointer (some ⟨(φ1 0), 0, none⟩))]) (fun φ1 => [((φ1 0), .cells #[.bool false, .pointer (some ⟨k, 0, none⟩)] 26)]) (fun φ1 => []) s trivial (fun φ1 => by kernel_rfl) ?_
  intro φ1 w1 s
  refine ops_done (by kernel_rfl) ?_
  refine wp_seq ?_
  refine wp_seq ?_
  refine region_rule ?_
  refine ops_rule (C := []) [((φ1 0), .cells #[.bool false, .pointer (some ⟨k, 0, none⟩)] 26)] F 1 [.o 0, .o 0] 0 (fun φ2 => [(10, .agg #[.bool false, .pointer (some ⟨k, 0, none⟩)])]) (fun φ2 => [((φ1 0), .cells #[.bool false, .pointer (some ⟨k, 0, none⟩)] 26)]) (fun φ2 => [(φ1 0), (φ1 0)]) s trivial (fun φ2 => by kernel_rfl) ?_
  intro φ2 w2 s
  refine call_rule (some 11) s (isZero1_c (k := k) hk hk2) (by kernel_rfl) ?_
  intro v3 I3 w3 le3 h3 s
  replace hk := D1.mono le3 hk
  replace hk2 := D2.mono le3 hk2
  obtain rfl := h3
  refine ops_done (by kernel_rfl) ?_
  refine cond_false_rule (b := false) (by kernel_rfl) rfl ?_
  refine wp_skip ?_
  refine wp_seq ?_
  refine wp_seq ?_
  refine region_rule ?_
  refine ops_rule (C := []) [((φ1 0), .cells #[.bool false, .pointer (some ⟨k, 0, none⟩)] 26)] F 1 [.o 0, .o 0] 0 (fun φ4 => [(13, .agg #[.bool false, .pointer (some ⟨k, 0, none⟩)])]) (fun φ4 => [((φ1 0), .cells #[.bool false, .pointer (some ⟨k, 0, none⟩)] 26)]) (fun φ4 => [(φ1 0), (φ1 0)]) s trivial (fun φ4 => by kernel_rfl) ?_
  intro φ4 w4 s
  refine call_rule (some 14) s (isOne1_c (k := k) hk hk2) (by kernel_rfl) ?_
  intro v5 I5 w5 le5 h5 s
  replace hk := D1.mono le5 hk
  replace hk2 := D2.mono le5 hk2
  obtain rfl := h5
  refine ops_done (by kernel_rfl) ?_
  refine cond_false_rule (b := false) (by kernel_rfl) rfl ?_
  refine wp_skip ?_
  refine wp_seq ?_
  refine region_rule ?_
  refine ops_rule (C := []) [((φ1 0), .cells #[.bool false, .pointer (some ⟨k, 0, none⟩)] 26)] F 1 [] 0 (fun φ6 => [(21, .float .f64 4607182418800017408)]) (fun φ6 => [((φ1 0), .cells #[.bool false, .pointer (some ⟨k, 0, none⟩)] 26)]) (fun φ6 => []) s trivial (fun φ6 => by kernel_rfl) ?_
  intro φ6 w6 s
  refine sem_rule (binOp .quo 37 (.float .f64 4607182418800017408) (.float .f64 4611686018427387904)) (some 22) (.float .f64 4602678819172646912) (by kernel_rfl) ((by kernel_rfl : ((binOp .quo 37 (.float .f64 4607182418800017408) (.float .f64 4611686018427387904)) : Sem Value).run Try.prog w6 = .ok (.float .f64 4602678819172646912) w6)) ?_
  refine ops_rule (C := []) [((φ1 0), .cells #[.bool false, .pointer (some ⟨k, 0, none⟩)] 26)] F 1 [] 0 (fun φ7 => [(9, .float .f64 4602678819172646912)]) (fun φ7 => [((φ1 0), .cells #[.bool false, .pointer (some ⟨k, 0, none⟩)] 26)]) (fun φ7 => []) s trivial (fun φ7 => by kernel_rfl) ?_
  intro φ7 w7 s
  refine ops_done (by kernel_rfl) ?_
  refine wp_seq ?_
  refine region_rule ?_
  refine ops_rule (C := []) [((φ1 0), .cells #[.bool false, .pointer (some ⟨k, 0, none⟩)] 26)] F 2 [.o 0, .o 0] 0 (fun φ8 => [(24, .agg #[.bool false, .pointer (some ⟨k, 0, none⟩)]), (23, v0)]) (fun φ8 => [((φ1 0), .cells #[.bool false, .pointer (some ⟨k, 0, none⟩)] 26)]) (fun φ8 => [(φ1 0), (φ1 0)]) s trivial (fun φ8 => by kernel_rfl) ?_
  intro φ8 w8 s
  refine call_rule (some 25) s (left1_c (k := k) hk hk2) (by kernel_rfl) ?_
  intro v9 I9 w9 le9 h9 s
  replace hk := D1.mono le9 hk
  replace hk2 := D2.mono le9 hk2
  obtain rfl := h9
  refine ops_rule (C := []) [((φ1 0), .cells #[.bool false, .pointer (some ⟨k, 0, none⟩)] 26)] F 2 [] 0 (fun φ10 => [(27, .float .f64 4602678819172646912), (26, .float .f64 0)]) (fun φ10 => [((φ1 0), .cells #[.bool false, .pointer (some ⟨k, 0, none⟩)] 26)]) (fun φ10 => []) s trivial (fun φ10 => by kernel_rfl) ?_
  intro φ10 w10 s
  refine callF_rule (H := [((φ1 0), .cells #[.bool false, .pointer (some ⟨k, 0, none⟩)] 26)]) (F := F) (some 28) s (spO1_c (n := n) (xs := xs) hrow (by omega)) (by kernel_rfl) ?_
  intro v11 I11 w11 F11 le11 h11 s
  replace hk := D1.mono le11 hk
  replace hk2 := D2.mono le11 hk2
  refine ops_rule (C := []) [((φ1 0), .cells #[.bool false, .pointer (some ⟨k, 0, none⟩)] 26)] F11 1 [] 0 (fun φ12 => [(0, v11)]) (fun φ12 => [((φ1 0), .cells #[.bool false, .pointer (some ⟨k, 0, none⟩)] 26)]) (fun φ12 => []) s trivial (fun φ12 => by kernel_rfl) ?_
  intro φ12 w12 s
  refine ops_done (by kernel_rfl) ?_
  refine wp_seq ?_
  refine region_rule ?_
  refine ops_rule (C := []) [((φ1 0), .cells #[.bool false, .pointer (some ⟨k, 0, none⟩)] 26)] F11 2 [.o 0, .o 0] 0 (fun φ13 => [(30, .agg #[.bool false, .pointer (some ⟨k, 0, none⟩)]), (29, v11)]) (fun φ13 => [((φ1 0), .cells #[.bool false, .pointer (some ⟨k, 0, none⟩)] 26)]) (fun φ13 => [(φ1 0), (φ1 0)]) s trivial (fun φ13 => by kernel_rfl) ?_
  intro φ13 w13 s
  refine call_rule (some 31) s (right1_c (k := k) hk hk2) (by kernel_rfl) ?_
  intro v14 I14 w14 le14 h14 s
  replace hk := D1.mono le14 hk
  replace hk2 := D2.mono le14 hk2
  obtain rfl := h14
  refine ops_rule (C := []) [((φ1 0), .cells #[.bool false, .pointer (some ⟨k, 0, none⟩)] 26)] F11 2 [] 0 (fun φ15 => [(33, .float .f64 4602678819172646912), (32, .float .f64 0)]) (fun φ15 => [((φ1 0), .cells #[.bool false, .pointer (some ⟨k, 0, none⟩)] 26)]) (fun φ15 => []) s trivial (fun φ15 => by kernel_rfl) ?_
  intro φ15 w15 s
  refine sem_rule (binOp .add 37 (.float .f64 0) (.float .f64 4602678819172646912)) (some 34) (.float .f64 4602678819172646912) (by kernel_rfl) ((by kernel_rfl : ((binOp .add 37 (.float .f64 0) (.float .f64 4602678819172646912)) : Sem Value).run Try.prog w15 = .ok (.float .f64 4602678819172646912) w15)) ?_
  refine ops_rule (C := []) [((φ1 0), .cells #[.bool false, .pointer (some ⟨k, 0, none⟩)] 26)] F11 1 [] 0 (fun φ16 => [(35, .float .f64 4602678819172646912)]) (fun φ16 => [((φ1 0), .cells #[.bool false, .pointer (some ⟨k, 0, none⟩)] 26)]) (fun φ16 => []) s trivial (fun φ16 => by kernel_rfl) ?_
  intro φ16 w16 s
  refine callF_rule (H := [((φ1 0), .cells #[.bool false, .pointer (some ⟨k, 0, none⟩)] 26)]) (F := F11) (some 36) s (sp2_c (n := (n + 1)) (xs := (xs ++ [.complex .f64 0 4602678819172646912])) hk2 h11 (by omega)) (by kernel_rfl) ?_
  intro v17 I17 w17 F17 le17 h17 s
  replace hk := D1.mono le17 hk
  replace hk2 := D2.mono le17 hk2
  refine ops_rule (C := []) [((φ1 0), .cells #[.bool false, .pointer (some ⟨k, 0, none⟩)] 26)] F17 1 [] 0 (fun φ18 => [(8, v17)]) (fun φ18 => [((φ1 0), .cells #[.bool false, .pointer (some ⟨k, 0, none⟩)] 26)]) (fun φ18 => []) s trivial (fun φ18 => by kernel_rfl) ?_
  intro φ18 w18 s
  refine ops_done (by kernel_rfl) ?_
  refine wp_ret ?_
  refine ret_rule (C := []) [((φ1 0), .cells #[.bool false, .pointer (some ⟨k, 0, none⟩)] 26)] F17 (v17) [] [] s trivial (by kernel_rfl) ?_
  replace s := s.drop (List.sublist_append_right [((φ1 0), .cells #[.bool false, .pointer (some ⟨k, 0, none⟩)] 26)] F17)
  exact ⟨_, _, _, rfl, s, h17⟩

set_option maxHeartbeats 1000000 in
theorem spans_c {I : IM} {k k2 : Nat} (hk : D1 I k k2) (hk2 : D2 I k2) : FunM Try.prog 10 #[.agg #[.bool false, .pointer (some ⟨k, 0, none⟩)]] I [] (fun v J F' => RowH 35 1 v 2 [.complex .f64 0 4602678819172646912, .complex .f64 4604930618986332160 4598175219545276416] F') := by
  refine enterM_rule 5 [(0, .agg #[.bool false, .pointer (some ⟨k, 0, none⟩)])] Try.func10 rfl (by kernel_rfl) ?_
  intro w s
  refine wp_seq ?_
  refine region_rule ?_
  refine ops_rule (C := []) [] [] 2 [] 1 (fun φ1 => [(2, .slice none 0 0), (1, .pointer (some ⟨(φ1 0), 0, none⟩))]) (fun φ1 => [((φ1 0), .cells #[.bool false, .pointer (some ⟨k, 0, none⟩)] 26)]) (fun φ1 => []) s trivial (fun φ1 => by kernel_rfl) ?_
  intro φ1 w1 s
  refine ops_done (by kernel_rfl) ?_
  refine wp_seq ?_
  refine region_rule ?_
  refine ops_rule (C := []) [((φ1 0), .cells #[.bool false, .pointer (some ⟨k, 0, none⟩)] 26)] [] 1 [.o 0, .o 0] 0 (fun φ2 => [(3, .agg #[.bool false, .pointer (some ⟨k, 0, none⟩)])]) (fun φ2 => [((φ1 0), .cells #[.bool false, .pointer (some ⟨k, 0, none⟩)] 26)]) (fun φ2 => [(φ1 0), (φ1 0)]) s trivial (fun φ2 => by kernel_rfl) ?_
  intro φ2 w2 s
  refine callF_rule (H := [((φ1 0), .cells #[.bool false, .pointer (some ⟨k, 0, none⟩)] 26)]) (F := []) (some 4) s (sp1_c (n := 0) (xs := []) hk hk2 (RowH.nil 35 1) (by omega)) (by kernel_rfl) ?_
  intro v3 I3 w3 F3 le3 h3 s
  replace hk := D1.mono le3 hk
  replace hk2 := D2.mono le3 hk2
  refine ops_rule (C := []) [((φ1 0), .cells #[.bool false, .pointer (some ⟨k, 0, none⟩)] 26)] F3 1 [] 0 (fun φ4 => [(2, v3)]) (fun φ4 => [((φ1 0), .cells #[.bool false, .pointer (some ⟨k, 0, none⟩)] 26)]) (fun φ4 => []) s trivial (fun φ4 => by kernel_rfl) ?_
  intro φ4 w4 s
  refine ops_done (by kernel_rfl) ?_
  refine wp_ret ?_
  refine ret_rule (C := []) [((φ1 0), .cells #[.bool false, .pointer (some ⟨k, 0, none⟩)] 26)] F3 (v3) [] [] s trivial (by kernel_rfl) ?_
  replace s := s.drop (List.sublist_append_right [((φ1 0), .cells #[.bool false, .pointer (some ⟨k, 0, none⟩)] 26)] F3)
  exact ⟨_, _, _, rfl, s, h3⟩

set_option maxHeartbeats 1000000 in
theorem measure_c {I : IM} {k k2 : Nat} (hk : D1 I k k2) (hk2 : D2 I k2) : Fun Try.prog 16 #[.agg #[.bool false, .pointer (some ⟨k, 0, none⟩)]] I (fun v J => v = .complex .f64 4604930618986332160 4611686018427387904) := by
  refine enter_rule 20 [(0, .agg #[.bool false, .pointer (some ⟨k, 0, none⟩)])] Try.func16 rfl (by kernel_rfl) ?_
  intro w s
  refine wp_seq ?_
  refine region_rule ?_
  refine ops_rule (C := []) [] [] 2 [] 1 (fun φ1 => [(2, .complex .f64 0 0), (1, .pointer (some ⟨(φ1 0), 0, none⟩))]) (fun φ1 => [((φ1 0), .cells #[.bool false, .pointer (some ⟨k, 0, none⟩)] 26)]) (fun φ1 => []) s trivial (fun φ1 => by kernel_rfl) ?_
  intro φ1 w1 s
  refine ops_done (by kernel_rfl) ?_
  refine wp_seq ?_
  refine region_rule ?_
  refine ops_rule (C := []) [((φ1 0), .cells #[.bool false, .pointer (some ⟨k, 0, none⟩)] 26)] [] 1 [] 0 (fun φ2 => [(3, .complex .f64 0 0)]) (fun φ2 => [((φ1 0), .cells #[.bool false, .pointer (some ⟨k, 0, none⟩)] 26)]) (fun φ2 => []) s trivial (fun φ2 => by kernel_rfl) ?_
  intro φ2 w2 s
  refine ops_done (by kernel_rfl) ?_
  refine wp_seq ?_
  refine wp_seq ?_
  refine region_rule ?_
  refine ops_rule (C := []) [((φ1 0), .cells #[.bool false, .pointer (some ⟨k, 0, none⟩)] 26)] [] 1 [.o 0, .o 0] 0 (fun φ3 => [(6, .agg #[.bool false, .pointer (some ⟨k, 0, none⟩)])]) (fun φ3 => [((φ1 0), .cells #[.bool false, .pointer (some ⟨k, 0, none⟩)] 26)]) (fun φ3 => [(φ1 0), (φ1 0)]) s trivial (fun φ3 => by kernel_rfl) ?_
  intro φ3 w3 s
  refine callF_rule (H := [((φ1 0), .cells #[.bool false, .pointer (some ⟨k, 0, none⟩)] 26)]) (F := []) (some 7) s (spans_c hk hk2) (by kernel_rfl) ?_
  intro v4 I4 w4 F4 le4 h4 s
  replace hk := D1.mono le4 hk
  replace hk2 := D2.mono le4 hk2
  obtain ⟨g4, cap4, rfl⟩ := row_some h4 (by decide)
  refine ops_rule (C := []) [((φ1 0), .cells #[.bool false, .pointer (some ⟨k, 0, none⟩)] 26)] F4 2 [] 0 (fun φ5 => [(9, .int .i64 0), (8, .int .i64 2)]) (fun φ5 => [((φ1 0), .cells #[.bool false, .pointer (some ⟨k, 0, none⟩)] 26)]) (fun φ5 => []) s trivial (fun φ5 => by kernel_rfl) ?_
  intro φ5 w5 s
  refine ops_done (by kernel_rfl) ?_
  refine wp_block ?_
  refine Go.wp_loop_rounds 3 ?_
  refine rounds_step (n := 2) ?_
  refine wp_seq ?_
  refine region_rule ?_
  refine ops_rule (C := []) [((φ1 0), .cells #[.bool false, .pointer (some ⟨k, 0, none⟩)] 26)] F4 1 [] 0 (fun φ6 => [(10, .bool true)]) (fun φ6 => [((φ1 0), .cells #[.bool false, .pointer (some ⟨k, 0, none⟩)] 26)]) (fun φ6 => []) s trivial (fun φ6 => by kernel_rfl) ?_
  intro φ6 w6 s
  refine ops_done (by kernel_rfl) ?_
  refine wp_seq ?_
  refine cond_true_rule (b := true) (by kernel_rfl) rfl ?_
  refine wp_skip ?_
  refine wp_seq ?_
  refine wp_block ?_
  refine wp_seq ?_
  refine region_rule ?_
  refine sem_rule (Instr.indexAt 30 (.slice (some ⟨g4, 0, none⟩) 2 cap4) (.int .i64 ((0 : Nat) : Int))) (some 11) (.pointer (some ⟨g4, 0, none⟩)) (by kernel_rfl) (run_idx30 (by decide)) ?_
  refine sem_rule (Instr.loadAt 35 (.pointer (some ⟨g4, 0, none⟩))) (some 12) (.complex .f64 0 4602678819172646912) (by kernel_rfl) (run_load35 (row_cell (H := [((φ1 0), .cells #[.bool false, .pointer (some ⟨k, 0, none⟩)] 26)]) (F := F4) s h4 rfl)) ?_
  refine ops_rule (C := []) [((φ1 0), .cells #[.bool false, .pointer (some ⟨k, 0, none⟩)] 26)] F4 1 [] 0 (fun φ7 => [(5, .complex .f64 0 4602678819172646912)]) (fun φ7 => [((φ1 0), .cells #[.bool false, .pointer (some ⟨k, 0, none⟩)] 26)]) (fun φ7 => []) s trivial (fun φ7 => by kernel_rfl) ?_
  intro φ7 w7 s
  refine ops_done (by kernel_rfl) ?_
  refine region_rule ?_
  refine ops_rule (C := []) [((φ1 0), .cells #[.bool false, .pointer (some ⟨k, 0, none⟩)] 26)] F4 2 [] 0 (fun φ8 => [(14, .complex .f64 0 4602678819172646912), (13, .complex .f64 0 0)]) (fun φ8 => [((φ1 0), .cells #[.bool false, .pointer (some ⟨k, 0, none⟩)] 26)]) (fun φ8 => []) s trivial (fun φ8 => by kernel_rfl) ?_
  intro φ8 w8 s
  refine sem_rule (Builtin.imag_ #[35] 37 #[.complex .f64 0 4602678819172646912]) (some 15) (.float .f64 4602678819172646912) (by kernel_rfl) ((by kernel_rfl : ((Builtin.imag_ #[35] 37 #[.complex .f64 0 4602678819172646912]) : Sem Value).run Try.prog w8 = .ok (.float .f64 4602678819172646912) w8)) ?_
  refine sem_rule (Builtin.complex_ #[37, 37] 35 #[.float .f64 4602678819172646912, .float .f64 4607182418800017408]) (some 16) (.complex .f64 4602678819172646912 4607182418800017408) (by kernel_rfl) ((by kernel_rfl : ((Builtin.complex_ #[37, 37] 35 #[.float .f64 4602678819172646912, .float .f64 4607182418800017408]) : Sem Value).run Try.prog w8 = .ok (.complex .f64 4602678819172646912 4607182418800017408) w8)) ?_
  refine sem_rule (binOp .add 35 (.complex .f64 0 0) (.complex .f64 4602678819172646912 4607182418800017408)) (some 17) (.complex .f64 4602678819172646912 4607182418800017408) (by kernel_rfl) ((by kernel_rfl : ((binOp .add 35 (.complex .f64 0 0) (.complex .f64 4602678819172646912 4607182418800017408)) : Sem Value).run Try.prog w8 = .ok (.complex .f64 4602678819172646912 4607182418800017408) w8)) ?_
  refine ops_rule (C := []) [((φ1 0), .cells #[.bool false, .pointer (some ⟨k, 0, none⟩)] 26)] F4 1 [] 0 (fun φ9 => [(3, .complex .f64 4602678819172646912 4607182418800017408)]) (fun φ9 => [((φ1 0), .cells #[.bool false, .pointer (some ⟨k, 0, none⟩)] 26)]) (fun φ9 => []) s trivial (fun φ9 => by kernel_rfl) ?_
  intro φ9 w9 s
  refine ops_done (by kernel_rfl) ?_
  refine region_rule ?_
  refine ops_rule (C := []) [((φ1 0), .cells #[.bool false, .pointer (some ⟨k, 0, none⟩)] 26)] F4 2 [] 0 (fun φ10 => [(9, .int .i64 1), (18, .int .i64 1)]) (fun φ10 => [((φ1 0), .cells #[.bool false, .pointer (some ⟨k, 0, none⟩)] 26)]) (fun φ10 => []) s trivial (fun φ10 => by kernel_rfl) ?_
  intro φ10 w10 s
  refine ops_done (by kernel_rfl) ?_
  refine rounds_step (n := 1) ?_
  refine wp_seq ?_
  refine region_rule ?_
  refine ops_rule (C := []) [((φ1 0), .cells #[.bool false, .pointer (some ⟨k, 0, none⟩)] 26)] F4 1 [] 0 (fun φ11 => [(10, .bool true)]) (fun φ11 => [((φ1 0), .cells #[.bool false, .pointer (some ⟨k, 0, none⟩)] 26)]) (fun φ11 => []) s trivial (fun φ11 => by kernel_rfl) ?_
  intro φ11 w11 s
  refine ops_done (by kernel_rfl) ?_
  refine wp_seq ?_
  refine cond_true_rule (b := true) (by kernel_rfl) rfl ?_
  refine wp_skip ?_
  refine wp_seq ?_
  refine wp_block ?_
  refine wp_seq ?_
  refine region_rule ?_
  refine sem_rule (Instr.indexAt 30 (.slice (some ⟨g4, 0, none⟩) 2 cap4) (.int .i64 ((1 : Nat) : Int))) (some 11) (.pointer (some ⟨g4, 1, none⟩)) (by kernel_rfl) (run_idx30 (by decide)) ?_
  refine sem_rule (Instr.loadAt 35 (.pointer (some ⟨g4, 1, none⟩))) (some 12) (.complex .f64 4604930618986332160 4598175219545276416) (by kernel_rfl) (run_load35 (row_cell (H := [((φ1 0), .cells #[.bool false, .pointer (some ⟨k, 0, none⟩)] 26)]) (F := F4) s h4 rfl)) ?_
  refine ops_rule (C := []) [((φ1 0), .cells #[.bool false, .pointer (some ⟨k, 0, none⟩)] 26)] F4 1 [] 0 (fun φ12 => [(5, .complex .f64 4604930618986332160 4598175219545276416)]) (fun φ12 => [((φ1 0), .cells #[.bool false, .pointer (some ⟨k, 0, none⟩)] 26)]) (fun φ12 => []) s trivial (fun φ12 => by kernel_rfl) ?_
  intro φ12 w12 s
  refine ops_done (by kernel_rfl) ?_
  refine region_rule ?_
  refine ops_rule (C := []) [((φ1 0), .cells #[.bool false, .pointer (some ⟨k, 0, none⟩)] 26)] F4 2 [] 0 (fun φ13 => [(14, .complex .f64 4604930618986332160 4598175219545276416), (13, .complex .f64 4602678819172646912 4607182418800017408)]) (fun φ13 => [((φ1 0), .cells #[.bool false, .pointer (some ⟨k, 0, none⟩)] 26)]) (fun φ13 => []) s trivial (fun φ13 => by kernel_rfl) ?_
  intro φ13 w13 s
  refine sem_rule (Builtin.imag_ #[35] 37 #[.complex .f64 4604930618986332160 4598175219545276416]) (some 15) (.float .f64 4598175219545276416) (by kernel_rfl) ((by kernel_rfl : ((Builtin.imag_ #[35] 37 #[.complex .f64 4604930618986332160 4598175219545276416]) : Sem Value).run Try.prog w13 = .ok (.float .f64 4598175219545276416) w13)) ?_
  refine sem_rule (Builtin.complex_ #[37, 37] 35 #[.float .f64 4598175219545276416, .float .f64 4607182418800017408]) (some 16) (.complex .f64 4598175219545276416 4607182418800017408) (by kernel_rfl) ((by kernel_rfl : ((Builtin.complex_ #[37, 37] 35 #[.float .f64 4598175219545276416, .float .f64 4607182418800017408]) : Sem Value).run Try.prog w13 = .ok (.complex .f64 4598175219545276416 4607182418800017408) w13)) ?_
  refine sem_rule (binOp .add 35 (.complex .f64 4602678819172646912 4607182418800017408) (.complex .f64 4598175219545276416 4607182418800017408)) (some 17) (.complex .f64 4604930618986332160 4611686018427387904) (by kernel_rfl) ((by kernel_rfl : ((binOp .add 35 (.complex .f64 4602678819172646912 4607182418800017408) (.complex .f64 4598175219545276416 4607182418800017408)) : Sem Value).run Try.prog w13 = .ok (.complex .f64 4604930618986332160 4611686018427387904) w13)) ?_
  refine ops_rule (C := []) [((φ1 0), .cells #[.bool false, .pointer (some ⟨k, 0, none⟩)] 26)] F4 1 [] 0 (fun φ14 => [(3, .complex .f64 4604930618986332160 4611686018427387904)]) (fun φ14 => [((φ1 0), .cells #[.bool false, .pointer (some ⟨k, 0, none⟩)] 26)]) (fun φ14 => []) s trivial (fun φ14 => by kernel_rfl) ?_
  intro φ14 w14 s
  refine ops_done (by kernel_rfl) ?_
  refine region_rule ?_
  refine ops_rule (C := []) [((φ1 0), .cells #[.bool false, .pointer (some ⟨k, 0, none⟩)] 26)] F4 2 [] 0 (fun φ15 => [(9, .int .i64 2), (18, .int .i64 2)]) (fun φ15 => [((φ1 0), .cells #[.bool false, .pointer (some ⟨k, 0, none⟩)] 26)]) (fun φ15 => []) s trivial (fun φ15 => by kernel_rfl) ?_
  intro φ15 w15 s
  refine ops_done (by kernel_rfl) ?_
  refine rounds_step (n := 0) ?_
  refine wp_seq ?_
  refine region_rule ?_
  refine ops_rule (C := []) [((φ1 0), .cells #[.bool false, .pointer (some ⟨k, 0, none⟩)] 26)] F4 1 [] 0 (fun φ16 => [(10, .bool false)]) (fun φ16 => [((φ1 0), .cells #[.bool false, .pointer (some ⟨k, 0, none⟩)] 26)]) (fun φ16 => []) s trivial (fun φ16 => by kernel_rfl) ?_
  intro φ16 w16 s
  refine ops_done (by kernel_rfl) ?_
  refine wp_seq ?_
  refine cond_false_rule (b := false) (by kernel_rfl) rfl ?_
  refine wp_exit ?_
  refine wp_seq ?_
  refine region_rule ?_
  refine ops_rule (C := []) [((φ1 0), .cells #[.bool false, .pointer (some ⟨k, 0, none⟩)] 26)] F4 2 [] 0 (fun φ17 => [(2, .complex .f64 4604930618986332160 4611686018427387904), (19, .complex .f64 4604930618986332160 4611686018427387904)]) (fun φ17 => [((φ1 0), .cells #[.bool false, .pointer (some ⟨k, 0, none⟩)] 26)]) (fun φ17 => []) s trivial (fun φ17 => by kernel_rfl) ?_
  intro φ17 w17 s
  refine ops_done (by kernel_rfl) ?_
  refine wp_ret ?_
  refine ret_rule (C := []) [((φ1 0), .cells #[.bool false, .pointer (some ⟨k, 0, none⟩)] 26)] F4 (.complex .f64 4604930618986332160 4611686018427387904) [] [] s trivial (by kernel_rfl) ?_
  exact ⟨_, _, _, rfl, s, rfl⟩

set_option maxHeartbeats 1000000 in
theorem awakeS_c {I : IM} : Fun Try.prog 8 #[] I (fun v J => v = .bool true) := by
  refine enter_rule 34 [] Try.func8 rfl (by kernel_rfl) ?_
  intro w s
  refine wp_seq ?_
  refine region_rule ?_
  refine ops_rule (C := []) [] [] 1 [] 0 (fun φ1 => [(0, .bool false)]) (fun φ1 => []) (fun φ1 => []) s trivial (fun φ1 => by kernel_rfl) ?_
  intro φ1 w1 s
  refine ops_done (by kernel_rfl) ?_
  refine wp_seq ?_
  refine region_rule ?_
  refine call_rule (some 5) s (parseK_c) (by kernel_rfl) ?_
  intro v2 I2 w2 le2 h2 s
  obtain ⟨k2, k22, rfl, h2_0, h2_1⟩ := h2
  refine ops_rule (C := []) [] [] 6 [.o 0, .o 0] 1 (fun φ3 => [(2, .int .i64 0), (1, .pointer (some ⟨(φ3 0), 0, none⟩)), (7, .int .i64 0), (6, .agg #[.bool false, .pointer (some ⟨k2, 0, none⟩)]), (4, .tuple #[.agg #[.bool false, .pointer (some ⟨k2, 0, none⟩)], .int .i64 0])]) (fun φ3 => [((φ3 0), .cells #[.bool false, .pointer (some ⟨k2, 0, none⟩)] 26)]) (fun φ3 => [(φ3 0), (φ3 0)]) s trivial (fun φ3 => by kernel_rfl) ?_
  intro φ3 w3 s
  refine ops_done (by kernel_rfl) ?_
  refine wp_seq ?_
  refine region_rule ?_
  refine ops_rule (C := []) [((φ3 0), .cells #[.bool false, .pointer (some ⟨k2, 0, none⟩)] 26)] [] 1 [.o 0, .o 0] 0 (fun φ4 => [(8, .agg #[.bool false, .pointer (some ⟨k2, 0, none⟩)])]) (fun φ4 => [((φ3 0), .cells #[.bool false, .pointer (some ⟨k2, 0, none⟩)] 26)]) (fun φ4 => [(φ3 0), (φ3 0)]) s trivial (fun φ4 => by kernel_rfl) ?_
  intro φ4 w4 s
  refine callF_rule (H := [((φ3 0), .cells #[.bool false, .pointer (some ⟨k2, 0, none⟩)] 26)]) (F := []) (some 9) s (spans_c h2_0 h2_1) (by kernel_rfl) ?_
  intro v5 I5 w5 F5 le5 h5 s
  replace h2_0 := D1.mono le5 h2_0
  replace h2_1 := D2.mono le5 h2_1
  obtain ⟨g5, cap5, rfl⟩ := row_some h5 (by decide)
  refine ops_rule (C := []) [((φ3 0), .cells #[.bool false, .pointer (some ⟨k2, 0, none⟩)] 26)] F5 1 [] 0 (fun φ6 => [(3, .slice (some ⟨g5, 0, none⟩) 2 cap5)]) (fun φ6 => [((φ3 0), .cells #[.bool false, .pointer (some ⟨k2, 0, none⟩)] 26)]) (fun φ6 => []) s trivial (fun φ6 => by kernel_rfl) ?_
  intro φ6 w6 s
  refine ops_done (by kernel_rfl) ?_
  refine wp_seq ?_
  refine region_rule ?_
  refine ops_rule (C := []) [((φ3 0), .cells #[.bool false, .pointer (some ⟨k2, 0, none⟩)] 26)] F5 9 [] 0 (fun φ7 => [(18, .slice (some ⟨g5, 0, none⟩) 2 cap5), (17, .bool true), (16, .bool true), (15, .bool true), (14, .int .i64 2), (13, .slice (some ⟨g5, 0, none⟩) 2 cap5), (12, .bool true), (11, .bool true), (10, .int .i64 0)]) (fun φ7 => [((φ3 0), .cells #[.bool false, .pointer (some ⟨k2, 0, none⟩)] 26)]) (fun φ7 => []) s trivial (fun φ7 => by kernel_rfl) ?_
  intro φ7 w7 s
  refine sem_rule (Instr.indexAt 30 (.slice (some ⟨g5, 0, none⟩) 2 cap5) (.int .i64 ((0 : Nat) : Int))) (some 19) (.pointer (some ⟨g5, 0, none⟩)) (by kernel_rfl) (run_idx30 (by decide)) ?_
  refine sem_rule (Instr.loadAt 35 (.pointer (some ⟨g5, 0, none⟩))) (some 20) (.complex .f64 0 4602678819172646912) (by kernel_rfl) (run_load35 (row_cell (H := [((φ3 0), .cells #[.bool false, .pointer (some ⟨k2, 0, none⟩)] 26)]) (F := F5) s h5 rfl)) ?_
  refine sem_rule (binOp .eql 35 (.complex .f64 0 4602678819172646912) (.complex .f64 0 4602678819172646912)) (some 21) (.bool true) (by kernel_rfl) ((by kernel_rfl : ((binOp .eql 35 (.complex .f64 0 4602678819172646912) (.complex .f64 0 4602678819172646912)) : Sem Value).run Try.prog w7 = .ok (.bool true) w7)) ?_
  refine ops_rule (C := []) [((φ3 0), .cells #[.bool false, .pointer (some ⟨k2, 0, none⟩)] 26)] F5 3 [] 0 (fun φ8 => [(24, .slice (some ⟨g5, 0, none⟩) 2 cap5), (23, .bool true), (22, .bool true)]) (fun φ8 => [((φ3 0), .cells #[.bool false, .pointer (some ⟨k2, 0, none⟩)] 26)]) (fun φ8 => []) s trivial (fun φ8 => by kernel_rfl) ?_
  intro φ8 w8 s
  refine sem_rule (Instr.indexAt 30 (.slice (some ⟨g5, 0, none⟩) 2 cap5) (.int .i64 ((1 : Nat) : Int))) (some 25) (.pointer (some ⟨g5, 1, none⟩)) (by kernel_rfl) (run_idx30 (by decide)) ?_
  refine sem_rule (Instr.loadAt 35 (.pointer (some ⟨g5, 1, none⟩))) (some 26) (.complex .f64 4604930618986332160 4598175219545276416) (by kernel_rfl) (run_load35 (row_cell (H := [((φ3 0), .cells #[.bool false, .pointer (some ⟨k2, 0, none⟩)] 26)]) (F := F5) s h5 rfl)) ?_
  refine sem_rule (binOp .eql 35 (.complex .f64 4604930618986332160 4598175219545276416) (.complex .f64 4604930618986332160 4598175219545276416)) (some 27) (.bool true) (by kernel_rfl) ((by kernel_rfl : ((binOp .eql 35 (.complex .f64 4604930618986332160 4598175219545276416) (.complex .f64 4604930618986332160 4598175219545276416)) : Sem Value).run Try.prog w8 = .ok (.bool true) w8)) ?_
  refine ops_rule (C := []) [((φ3 0), .cells #[.bool false, .pointer (some ⟨k2, 0, none⟩)] 26)] F5 3 [.o 0, .o 0] 0 (fun φ9 => [(30, .agg #[.bool false, .pointer (some ⟨k2, 0, none⟩)]), (29, .bool true), (28, .bool true)]) (fun φ9 => [((φ3 0), .cells #[.bool false, .pointer (some ⟨k2, 0, none⟩)] 26)]) (fun φ9 => [(φ3 0), (φ3 0)]) s trivial (fun φ9 => by kernel_rfl) ?_
  intro φ9 w9 s
  refine call_rule (some 31) s (measure_c h2_0 h2_1) (by kernel_rfl) ?_
  intro v10 I10 w10 le10 h10 s
  replace h2_0 := D1.mono le10 h2_0
  replace h2_1 := D2.mono le10 h2_1
  obtain rfl := h10
  refine sem_rule (binOp .eql 35 (.complex .f64 4604930618986332160 4611686018427387904) (.complex .f64 4604930618986332160 4611686018427387904)) (some 32) (.bool true) (by kernel_rfl) ((by kernel_rfl : ((binOp .eql 35 (.complex .f64 4604930618986332160 4611686018427387904) (.complex .f64 4604930618986332160 4611686018427387904)) : Sem Value).run Try.prog w10 = .ok (.bool true) w10)) ?_
  refine ops_rule (C := []) [((φ3 0), .cells #[.bool false, .pointer (some ⟨k2, 0, none⟩)] 26)] F5 2 [] 0 (fun φ11 => [(0, .bool true), (33, .bool true)]) (fun φ11 => [((φ3 0), .cells #[.bool false, .pointer (some ⟨k2, 0, none⟩)] 26)]) (fun φ11 => []) s trivial (fun φ11 => by kernel_rfl) ?_
  intro φ11 w11 s
  refine ops_done (by kernel_rfl) ?_
  refine wp_ret ?_
  refine ret_rule (C := []) [((φ3 0), .cells #[.bool false, .pointer (some ⟨k2, 0, none⟩)] 26)] F5 (.bool true) [] [] s trivial (by kernel_rfl) ?_
  exact ⟨_, _, _, rfl, s, rfl⟩

end Go.Proofs.Ytgdickihjaomjaa
/- Floats: whole numbers of the least parts (2^16 of the whole), exactly. -/
set_option linter.all false
namespace Go.Proofs.Ytgdickihjaomjaa
open Go.RowKit Go.Sep
open Ieee
theorem cut_zero (neg : Bool) (n : Nat) : Toward.even.cut neg n 0 = n := by
  unfold Toward.cut
  simp [Nat.mod_one]
/-- so many of the least parts, as a word -/
def dF (n : Nat) : Nat := double.nearest false n (-16)
theorem dF_zero : dF 0 = 0 := by decide
theorem log_lt {n : Nat} (h0 : n ≠ 0) (h : n < 2 ^ 53) : n.log2 < 53 := (Nat.log2_lt h0).2 h
theorem sig_lt {n : Nat} (h0 : n ≠ 0) (h : n < 2 ^ 53) : n * 2 ^ (52 - n.log2) < 9007199254740992 := by
  have hl := log_lt h0 h
  have h1 : n < 2 ^ (n.log2 + 1) := Nat.lt_log2_self
  have h2 : n * 2 ^ (52 - n.log2) < 2 ^ (n.log2 + 1) * 2 ^ (52 - n.log2) := Nat.mul_lt_mul_of_pos_right h1 (Nat.two_pow_pos _)
  rw [← Nat.pow_add, show n.log2 + 1 + (52 - n.log2) = 53 by omega] at h2
  exact h2
theorem sig_ge {n : Nat} (h0 : n ≠ 0) (h : n < 2 ^ 53) : 4503599627370496 ≤ n * 2 ^ (52 - n.log2) := by
  have hl := log_lt h0 h
  have h1 : 2 ^ n.log2 ≤ n := Nat.log2_self_le h0
  have h2 : 2 ^ n.log2 * 2 ^ (52 - n.log2) ≤ n * 2 ^ (52 - n.log2) := Nat.mul_le_mul_right _ h1
  rw [← Nat.pow_add, show n.log2 + (52 - n.log2) = 52 by omega] at h2
  exact h2
theorem dF_rung {n : Nat} (h0 : n ≠ 0) (h : n < 2 ^ 53) : dF n = (n.log2 + 1006) * 4503599627370496 + n * 2 ^ (52 - n.log2) := by
  have hl := log_lt h0 h
  have hs := sig_lt h0 h
  have hlp : Format.leastPlace double = -1074 := by decide
  have hb : Format.binade double = 4503599627370496 := by decide
  have hi : Format.infRung double = 9218868437227405312 := by decide
  have hfb : double.fractionBits = 52 := rfl
  unfold dF Format.nearest
  rw [if_neg h0]
  simp only [hlp, hb, hi, hfb]
  have e1 : max ((-16 : Int) + (n.log2 : Int) - ((52 : Nat) : Int)) (-1074) = (n.log2 : Int) - 68 := by omega
  rw [e1]
  have e2 : ((-16 : Int) - ((n.log2 : Int) - 68)).toNat = 52 - n.log2 := by omega
  have e3 : (((n.log2 : Int) - 68) - (-16)).toNat = 0 := by omega
  have e4 : (((n.log2 : Int) - 68) - (-1074)).toNat = n.log2 + 1006 := by omega
  rw [e2, e3, e4, cut_zero, Nat.shiftLeft_eq]
  unfold Format.word
  rw [if_neg (by decide), Nat.min_eq_left (by omega)]
/-- what it stands for -/
theorem dF_read {n : Nat} (h0 : n ≠ 0) (h : n < 2 ^ 53) : double.read (dF n) = .number false (n * 2 ^ (52 - n.log2)) ((n.log2 : Int) - 68) := by
  have hl := log_lt h0 h
  have hs := sig_lt h0 h
  have hg := sig_ge h0 h
  have hlp : Format.leastPlace double = -1074 := by decide
  have hb : Format.binade double = 4503599627370496 := by decide
  have hi : Format.infRung double = 9218868437227405312 := by decide
  have hw : Format.signWeight double = 9223372036854775808 := by decide
  have hr := dF_rung h0 h
  have hlt : dF n < 9218868437227405312 := by omega
  unfold Format.read
  simp only [hlp, hb, hi, hw]
  rw [Nat.mod_eq_of_lt (by omega : dF n < 9223372036854775808), Nat.div_eq_of_lt (by omega : dF n < 9223372036854775808)]
  rw [if_neg (by omega), if_pos hlt]
  have e1 : dF n % 4503599627370496 = n * 2 ^ (52 - n.log2) - 4503599627370496 := by omega
  have e2 : dF n / 4503599627370496 = n.log2 + 1007 := by omega
  rw [e1, e2]
  have e3 : 4503599627370496 + (n * 2 ^ (52 - n.log2) - 4503599627370496) = n * 2 ^ (52 - n.log2) := by omega
  have e4 : (-1074 : Int) + ((n.log2 + 1007 - 1 : Nat) : Int) = (n.log2 : Int) - 68 := by omega
  rw [e3, e4]; rfl
end Go.Proofs.Ytgdickihjaomjaa
/- Floats: sums of whole numbers of the least parts are exact. -/
set_option linter.all false
namespace Go.Proofs.Ytgdickihjaomjaa
open Go.RowKit Go.Sep
open Ieee
theorem log_mul {n t : Nat} (h0 : n ≠ 0) : (n * 2 ^ t).log2 = n.log2 + t := by
  have hp := Nat.two_pow_pos t
  refine (Nat.log2_eq_iff (Nat.mul_ne_zero h0 (by omega))).2 ⟨?_, ?_⟩
  · rw [Nat.pow_add]; exact Nat.mul_le_mul_right _ (Nat.log2_self_le h0)
  · have h1 : n * 2 ^ t < 2 ^ (n.log2 + 1) * 2 ^ t := Nat.mul_lt_mul_of_pos_right Nat.lt_log2_self hp
    rw [← Nat.pow_add, show n.log2 + 1 + t = n.log2 + t + 1 by omega] at h1
    exact h1
theorem cut_mul {x d : Nat} (h0 : x ≠ 0) : Toward.even.cut false (x * 2 ^ d) d = x := by
  have hp := Nat.two_pow_pos d
  have hl := log_mul (t := d) h0
  unfold Toward.cut
  rw [hl, Nat.min_eq_left (by omega), Nat.shiftLeft_eq, Nat.one_mul]
  simp only [Nat.mul_div_cancel _ hp, Nat.mul_mod_left]
  have h1 : decide (2 ^ d < 2 * 0) = false := decide_eq_false (by omega)
  have h2 : (2 ^ d == 2 * 0) = false := beq_eq_false_iff_ne.2 (by omega)
  simp only [h1, h2, Bool.false_and, Bool.or_false, Bool.toNat_false, Nat.add_zero]
/-- the word hangs on the value alone -/
theorem dF_canon {n t : Nat} (h : n < 2 ^ 53) (ht : t ≤ 1058) : double.nearest false (n * 2 ^ t) (-16 - (t : Int)) = dF n := by
  by_cases h0 : n = 0
  · subst h0; rw [Nat.zero_mul]; unfold Format.nearest dF; rw [if_pos rfl]; unfold Format.nearest; rw [if_pos rfl]
  have hl := log_lt h0 h
  have hs := sig_lt h0 h
  have hlp : Format.leastPlace double = -1074 := by decide
  have hb : Format.binade double = 4503599627370496 := by decide
  have hi : Format.infRung double = 9218868437227405312 := by decide
  have hfb : double.fractionBits = 52 := rfl
  have hne : n * 2 ^ t ≠ 0 := Nat.mul_ne_zero h0 (by have := Nat.two_pow_pos t; omega)
  rw [dF_rung h0 h]
  unfold Format.nearest
  rw [if_neg hne]
  simp only [hlp, hb, hi, hfb, log_mul h0]
  have e1 : max ((-16 - (t : Int)) + ((n.log2 + t : Nat) : Int) - ((52 : Nat) : Int)) (-1074) = (n.log2 : Int) - 68 := by omega
  rw [e1]
  have e4 : (((n.log2 : Int) - 68) - (-1074)).toNat = n.log2 + 1006 := by omega
  have hk : Toward.even.cut false ((n * 2 ^ t) <<< ((-16 - (t : Int)) - ((n.log2 : Int) - 68)).toNat) (((n.log2 : Int) - 68) - (-16 - (t : Int))).toNat = n * 2 ^ (52 - n.log2) := by
    by_cases hc : t ≤ 52 - n.log2
    · have e2 : ((-16 - (t : Int)) - ((n.log2 : Int) - 68)).toNat = 52 - n.log2 - t := by omega
      have e3 : (((n.log2 : Int) - 68) - (-16 - (t : Int))).toNat = 0 := by omega
      rw [e2, e3, cut_zero, Nat.shiftLeft_eq, Nat.mul_assoc, ← Nat.pow_add, show t + (52 - n.log2 - t) = 52 - n.log2 by omega]
    · have e2 : ((-16 - (t : Int)) - ((n.log2 : Int) - 68)).toNat = 0 := by omega
      have e3 : (((n.log2 : Int) - 68) - (-16 - (t : Int))).toNat = t - (52 - n.log2) := by omega
      have e5 : n * 2 ^ t = n * 2 ^ (52 - n.log2) * 2 ^ (t - (52 - n.log2)) := by
        rw [Nat.mul_assoc, ← Nat.pow_add, show 52 - n.log2 + (t - (52 - n.log2)) = t by omega]
      rw [e2, e3, Nat.shiftLeft_zero, e5, cut_mul (Nat.mul_ne_zero h0 (by have := Nat.two_pow_pos (52 - n.log2); omega))]
  rw [hk, e4]
  unfold Format.word
  rw [if_neg (by decide), Nat.min_eq_left (by omega)]
/-- what a word of so many parts stands for, at any place below -/
theorem rdD {a : Nat} (h : a < 2 ^ 53) : ∃ (m : Nat) (p : Int), double.read (dF a) = .number false m p ∧ -1074 ≤ p ∧ p ≤ -16 ∧ ∀ base : Int, base ≤ p → m <<< (p - base).toNat = a * 2 ^ (-16 - base).toNat := by
  by_cases h0 : a = 0
  · subst h0
    refine ⟨0, -1074, by decide, by omega, by omega, fun base _ => ?_⟩
    rw [Nat.zero_mul, Nat.shiftLeft_eq, Nat.zero_mul]
  · have hl := log_lt h0 h
    refine ⟨_, _, dF_read h0 h, by omega, by omega, fun base hb => ?_⟩
    rw [Nat.shiftLeft_eq, Nat.mul_assoc, ← Nat.pow_add]
    congr 2
    omega
theorem dF_add {a b : Nat} (h : a + b < 2 ^ 53) : double.add (dF a) (dF b) = some (dF (a + b)) := by
  obtain ⟨m, p, e1, p1, p2, k1⟩ := rdD (a := a) (by omega)
  obtain ⟨n, q, e2, q1, q2, k2⟩ := rdD (a := b) (by omega)
  unfold Format.add
  rw [e1, e2]
  simp only [Datum.sum, Option.map_some, Option.some.injEq]
  have s1 := k1 (min p q) (by omega)
  have s2 := k2 (min p q) (by omega)
  unfold signed
  simp only [Bool.false_eq_true, if_false, s1, s2, Bool.and_self]
  have e3 : ((a * 2 ^ (-16 - min p q).toNat : Nat) : Int) + ((b * 2 ^ (-16 - min p q).toNat : Nat) : Int) = (((a + b) * 2 ^ (-16 - min p q).toNat : Nat) : Int) := by
    rw [Nat.add_mul]; omega
  rw [e3, Int.natAbs_natCast]
  have e4 : (if (((a + b) * 2 ^ (-16 - min p q).toNat : Nat) : Int) = 0 then false else decide ((((a + b) * 2 ^ (-16 - min p q).toNat : Nat) : Int) < 0)) = false := by
    split
    · rfl
    · exact decide_eq_false (by omega)
  rw [e4]
  show double.nearest false _ _ = _
  have e5 : min p q = -16 - (((-16 - min p q).toNat : Nat) : Int) := by omega
  have hc := dF_canon (n := a + b) (t := (-16 - min p q).toNat) h (by omega)
  rw [← e5] at hc
  exact hc
end Go.Proofs.Ytgdickihjaomjaa
/- Floats: halves; the operations as they run. -/
set_option linter.all false
namespace Go.Proofs.Ytgdickihjaomjaa
open Go.RowKit Go.Sep
open Ieee
theorem read_two : double.read 4611686018427387904 = .number false 4503599627370496 (-51) := by decide
theorem dF_half {n : Nat} (h : 2 * n < 2 ^ 53) : double.div (dF (2 * n)) 4611686018427387904 = some (dF n) := by
  unfold Format.div
  by_cases h0 : n = 0
  · subst h0; decide
  have hz : 2 * n ≠ 0 := by omega
  have hl := log_lt hz h
  have hlg : (2 * n).log2 = n.log2 + 1 := Nat.log2_two_mul h0
  have h2 : (4503599627370496 : Nat).log2 = 52 := by decide
  have hm : (2 * n * 2 ^ (52 - (2 * n).log2)).log2 = 52 := by rw [log_mul hz]; omega
  rw [dF_read hz h, read_two]
  have hne : ¬ (4503599627370496 : Nat) = 0 := by decide
  generalize hM : 2 * n * 2 ^ (52 - (2 * n).log2) = M at hm ⊢
  have hq : M <<< 54 / 4503599627370496 = 4 * M := by rw [Nat.shiftLeft_eq]; omega
  have hr : M <<< 54 % 4503599627370496 = 0 := by rw [Nat.shiftLeft_eq]; omega
  have hfb : double.fractionBits + 2 = 54 := rfl
  have hmore : 54 + 52 - 52 = 54 := rfl
  simp only [Datum.quotient, if_neg hne, h2, hm, hfb, hmore, hq, hr, Option.map_some, Option.some.injEq]
  have e1 : 2 * (4 * M) + (0 != 0).toNat = n * 2 ^ (56 - (2 * n).log2) := by
    show 2 * (4 * M) + 0 = _
    rw [← hM, hlg, show 56 - (n.log2 + 1) = (52 - (n.log2 + 1)) + 4 by omega, Nat.pow_add]
    generalize 2 ^ (52 - (n.log2 + 1)) = Q
    have h3 : 2 * n * Q = 2 * (n * Q) := Nat.mul_assoc 2 n Q
    have h4 : n * (Q * 2 ^ 4) = n * Q * 16 := (Nat.mul_assoc n Q 16).symm
    rw [h3, h4]; omega
  rw [e1]
  show double.nearest false _ _ = _
  have e2 : ((2 * n).log2 : Int) - 68 - -51 - ((54 : Nat) : Int) - 1 = -16 - ((56 - (2 * n).log2 : Nat) : Int) := by omega
  rw [e2]
  exact dF_canon (by omega) (by omega)
theorem run_addF {w : World} {a b : Nat} (h : a + b < 2 ^ 53) : (binOp .add 37 (.float .f64 (dF a)) (.float .f64 (dF b))).run Try.prog w = .ok (.float .f64 (dF (a + b))) w := by
  have e : (FloatKind.format .f64).add (dF a) (dF b) = some (dF (a + b)) := dF_add h
  show (Op.floatArith .add .f64 (dF a) (dF b)).run Try.prog w = _
  unfold Op.floatArith
  simp only [e]; rfl
theorem run_halfF {w : World} {n : Nat} (h : 2 * n < 2 ^ 53) : (binOp .quo 37 (.float .f64 (dF (2 * n))) (.float .f64 4611686018427387904)).run Try.prog w = .ok (.float .f64 (dF n)) w := by
  have e : (FloatKind.format .f64).div (dF (2 * n)) 4611686018427387904 = some (dF n) := dF_half h
  show (Op.floatArith .quo .f64 (dF (2 * n)) 4611686018427387904).run Try.prog w = _
  unfold Op.floatArith
  simp only [e]; rfl
theorem dF_one : dF 65536 = 4607182418800017408 := by decide
end Go.Proofs.Ytgdickihjaomjaa
/- Floats: a whole number divided by 2^16, and of the least parts when two are the same. -/
set_option linter.all false
namespace Go.Proofs.Ytgdickihjaomjaa
open Go.RowKit Go.Sep
open Ieee
/-- a whole number is so many parts -/
theorem whole_dF {n : Nat} (h : n * 65536 < 2 ^ 53) : FloatKind.nearest .f64 (n : Int) = dF (n * 65536) := by
  show double.nearest (decide ((n : Int) < 0)) ((n : Int)).natAbs 0 = double.nearest false (n * 65536) (-16)
  rw [decide_eq_false (by omega), Int.natAbs_natCast]
  by_cases h0 : n = 0
  · subst h0; decide
  have hne : n * 65536 ≠ 0 := by omega
  have hl := log_lt hne h
  have hlg : (n * 65536).log2 = n.log2 + 16 := log_mul (t := 16) h0
  have hs := sig_lt hne h
  have hr := dF_rung hne h
  unfold dF at hr
  rw [hr]
  have hlp : Format.leastPlace double = -1074 := by decide
  have hb : Format.binade double = 4503599627370496 := by decide
  have hi : Format.infRung double = 9218868437227405312 := by decide
  have hfb : double.fractionBits = 52 := rfl
  unfold Format.nearest
  rw [if_neg h0]
  simp only [hlp, hb, hi, hfb]
  have e1 : max ((0 : Int) + (n.log2 : Int) - ((52 : Nat) : Int)) (-1074) = (n.log2 : Int) - 52 := by omega
  rw [e1]
  have e2 : ((0 : Int) - ((n.log2 : Int) - 52)).toNat = 52 - n.log2 := by omega
  have e3 : (((n.log2 : Int) - 52) - 0).toNat = 0 := by omega
  have e4 : (((n.log2 : Int) - 52) - (-1074)).toNat = n.log2 + 1022 := by omega
  have e5 : n * 2 ^ (52 - n.log2) = n * 65536 * 2 ^ (52 - (n * 65536).log2) := by
    rw [hlg, Nat.mul_assoc, show (65536 : Nat) = 2 ^ 16 by decide, ← Nat.pow_add]
    congr 2; omega
  rw [e2, e3, e4, cut_zero, Nat.shiftLeft_eq, e5]
  unfold Format.word
  rw [if_neg (by decide), Nat.min_eq_left (by omega), hlg]
theorem read_parts : double.read 4679240012837945344 = .number false 4503599627370496 (-36) := by decide
theorem dF_div {n : Nat} (h : n * 65536 < 2 ^ 53) : double.div (dF (n * 65536)) 4679240012837945344 = some (dF n) := by
  unfold Format.div
  by_cases h0 : n = 0
  · subst h0; decide
  have hz : n * 65536 ≠ 0 := by omega
  have hl := log_lt hz h
  have hlg : (n * 65536).log2 = n.log2 + 16 := log_mul (t := 16) h0
  have h2 : (4503599627370496 : Nat).log2 = 52 := by decide
  have hm : (n * 65536 * 2 ^ (52 - (n * 65536).log2)).log2 = 52 := by rw [log_mul hz]; omega
  rw [dF_read hz h, read_parts]
  have hne : ¬ (4503599627370496 : Nat) = 0 := by decide
  generalize hM : n * 65536 * 2 ^ (52 - (n * 65536).log2) = M at hm ⊢
  have hq : M <<< 54 / 4503599627370496 = 4 * M := by rw [Nat.shiftLeft_eq]; omega
  have hr : M <<< 54 % 4503599627370496 = 0 := by rw [Nat.shiftLeft_eq]; omega
  have hfb : double.fractionBits + 2 = 54 := rfl
  have hmore : 54 + 52 - 52 = 54 := rfl
  simp only [Datum.quotient, if_neg hne, h2, hm, hfb, hmore, hq, hr, Option.map_some, Option.some.injEq]
  have e1 : 2 * (4 * M) + (0 != 0).toNat = n * 2 ^ (71 - (n * 65536).log2) := by
    show 2 * (4 * M) + 0 = _
    rw [← hM, hlg, show 71 - (n.log2 + 16) = (52 - (n.log2 + 16)) + 19 by omega, Nat.pow_add]
    generalize 2 ^ (52 - (n.log2 + 16)) = Q
    have h3 : n * 65536 * Q = 65536 * (n * Q) := by rw [Nat.mul_comm n, Nat.mul_assoc]
    have h4 : n * (Q * 2 ^ 19) = n * Q * 524288 := (Nat.mul_assoc n Q 524288).symm
    rw [h3, h4]; omega
  rw [e1]
  show double.nearest false _ _ = _
  have e2 : ((n * 65536).log2 : Int) - 68 - -36 - ((54 : Nat) : Int) - 1 = -16 - ((71 - (n * 65536).log2 : Nat) : Int) := by omega
  rw [e2]
  exact dF_canon (by omega) (by omega)
/-- .. and as floats -/
theorem dF_eq {a b : Nat} (ha : a < 2 ^ 53) (hb : b < 2 ^ 53) : Op.floatEq .f64 (dF a) (dF b) = decide (a = b) := by
  obtain ⟨m, p, e1, p1, p2, k1⟩ := rdD ha
  obtain ⟨n, q, e2, q1, q2, k2⟩ := rdD hb
  show ((double.read (dF a)).order (double.read (dF b)) == some .eq) = _
  rw [e1, e2]
  have s1 := k1 (min p q) (by omega)
  have s2 := k2 (min p q) (by omega)
  simp only [Datum.order, signed, Bool.false_eq_true, if_false, s1, s2]
  have hp := Nat.two_pow_pos (-16 - min p q).toNat
  generalize 2 ^ (-16 - min p q).toNat = Q at hp ⊢
  by_cases h : a = b
  · subst h
    rw [decide_eq_true rfl, Std.ReflCmp.compare_self (cmp := (compare : Int → Int → Ordering))]; rfl
  · rw [decide_eq_false h]
    have hne : ¬ (((a * Q : Nat) : Int) = ((b * Q : Nat) : Int)) := fun q => h (Nat.eq_of_mul_eq_mul_right hp (by omega))
    have : ¬ compare (((a * Q : Nat) : Int)) (((b * Q : Nat) : Int)) = .eq := fun q => hne (Std.LawfulEqCmp.eq_of_compare q)
    cases hc : compare (((a * Q : Nat) : Int)) (((b * Q : Nat) : Int)) with
    | eq => exact absurd hc this
    | lt => rfl
    | gt => rfl
end Go.Proofs.Ytgdickihjaomjaa
/- Floats: products and the greater of whole numbers of the least parts, exactly. -/
set_option linter.all false
namespace Go.Proofs.Ytgdickihjaomjaa
open Go.RowKit Go.Sep
open Ieee
theorem run_divF {w : World} {n : Nat} (h : n * 65536 < 2 ^ 53) : (binOp .quo 37 (.float .f64 (dF (n * 65536))) (.float .f64 4679240012837945344)).run Try.prog w = .ok (.float .f64 (dF n)) w := by
  have e : (FloatKind.format .f64).div (dF (n * 65536)) 4679240012837945344 = some (dF n) := dF_div h
  show (Op.floatArith .quo .f64 (dF (n * 65536)) 4679240012837945344).run Try.prog w = _
  unfold Op.floatArith
  simp only [e]; rfl
def cmpN (a b : Nat) : Ordering := if a < b then .lt else if a = b then .eq else .gt
theorem dF_order {a b : Nat} (ha : a < 2 ^ 53) (hb : b < 2 ^ 53) : (double.read (dF a)).order (double.read (dF b)) = some (cmpN a b) := by
  obtain ⟨m, p, e1, p1, p2, k1⟩ := rdD ha
  obtain ⟨n, q, e2, q1, q2, k2⟩ := rdD hb
  rw [e1, e2]
  have s1 := k1 (min p q) (by omega)
  have s2 := k2 (min p q) (by omega)
  simp only [Datum.order, signed, Bool.false_eq_true, if_false, s1, s2]
  have hp := Nat.two_pow_pos (-16 - min p q).toNat
  generalize 2 ^ (-16 - min p q).toNat = Q at hp ⊢
  have hc : compare (((a * Q : Nat) : Int)) (((b * Q : Nat) : Int)) = if (((a * Q : Nat) : Int)) < (((b * Q : Nat) : Int)) then .lt else if (((a * Q : Nat) : Int)) = (((b * Q : Nat) : Int)) then .eq else .gt := rfl
  rw [hc]
  unfold cmpN
  congr 1
  by_cases h : a < b
  · have := Nat.mul_lt_mul_of_pos_right h hp
    rw [if_pos h, if_pos (by omega)]
  · by_cases h2 : a = b
    · subst h2
      rw [if_neg h, if_pos rfl, if_neg (by omega), if_pos rfl]
    · have := Nat.mul_lt_mul_of_pos_right (show b < a by omega) hp
      rw [if_neg h, if_neg h2, if_neg (by omega), if_neg (by omega)]
theorem run_cmpC {w : World} {a b c d : Nat} (ha : a < 2 ^ 53) (hb : b < 2 ^ 53) (hc : c < 2 ^ 53) (hd : d < 2 ^ 53) : (binOp .eql 35 (.complex .f64 (dF a) (dF b)) (.complex .f64 (dF c) (dF d))).run Try.prog w = .ok (.bool (decide (a = c) && decide (b = d))) w := by
  have h : (binOp .eql 35 (.complex .f64 (dF a) (dF b)) (.complex .f64 (dF c) (dF d))).run Try.prog w = .ok (.bool (Op.floatEq .f64 (dF a) (dF c) && Op.floatEq .f64 (dF b) (dF d))) w := rfl
  rw [h, dF_eq ha hc, dF_eq hb hd]
theorem run_addC {w : World} {a b c d : Nat} (h1 : a + c < 2 ^ 53) (h2 : b + d < 2 ^ 53) : (binOp .add 35 (.complex .f64 (dF a) (dF b)) (.complex .f64 (dF c) (dF d))).run Try.prog w = .ok (.complex .f64 (dF (a + c)) (dF (b + d))) w := by
  have e1 : (FloatKind.format .f64).add (dF a) (dF c) = some (dF (a + c)) := dF_add h1
  have e2 : (FloatKind.format .f64).add (dF b) (dF d) = some (dF (b + d)) := dF_add h2
  show (Op.complexOp .add .f64 (dF a) (dF b) (dF c) (dF d)).run Try.prog w = _
  unfold Op.complexOp Op.Complex.arith Op.floatArith
  simp only [e1, e2]; rfl
theorem run_leF {w : World} {a b : Nat} (ha : a < 2 ^ 53) (hb : b < 2 ^ 53) : (binOp .leq 37 (.float .f64 (dF a)) (.float .f64 (dF b))).run Try.prog w = .ok (.bool (decide (a ≤ b))) w := by
  have e : (FloatKind.format .f64).order (dF a) (dF b) = some (cmpN a b) := dF_order ha hb
  have h : (binOp .leq 37 (.float .f64 (dF a)) (.float .f64 (dF b))).run Try.prog w = .ok (.bool ((FloatKind.format .f64).order (dF a) (dF b) == some .lt || (FloatKind.format .f64).order (dF a) (dF b) == some .eq)) w := rfl
  rw [h, e]
  unfold cmpN
  by_cases h1 : a < b
  · rw [if_pos h1, decide_eq_true (by omega)]; rfl
  · by_cases h2 : a = b
    · rw [if_neg h1, if_pos h2, decide_eq_true (by omega)]; rfl
    · rw [if_neg h1, if_neg h2, decide_eq_false (by omega)]; rfl
theorem run_ltF {w : World} {a b : Nat} (ha : a < 2 ^ 53) (hb : b < 2 ^ 53) : (binOp .lss 37 (.float .f64 (dF a)) (.float .f64 (dF b))).run Try.prog w = .ok (.bool (decide (a < b))) w := by
  have e : (FloatKind.format .f64).order (dF a) (dF b) = some (cmpN a b) := dF_order ha hb
  have h : (binOp .lss 37 (.float .f64 (dF a)) (.float .f64 (dF b))).run Try.prog w = .ok (.bool ((FloatKind.format .f64).order (dF a) (dF b) == some .lt)) w := rfl
  rw [h, e]
  unfold cmpN
  by_cases h1 : a < b
  · rw [if_pos h1, decide_eq_true h1]; rfl
  · by_cases h2 : a = b
    · rw [if_neg h1, if_pos h2, decide_eq_false h1]; rfl
    · rw [if_neg h1, if_neg h2, decide_eq_false h1]; rfl
end Go.Proofs.Ytgdickihjaomjaa
/- The program's event trees. -/
set_option linter.all false
set_option maxRecDepth 100000
namespace Go.Proofs.Ytgdickihjaomjaa.Ev
open Go.RowKit Go.Sep

inductive E where
  | leaf (n : Nat)
  | node (n : Nat) (l r : E)
  deriving DecidableEq
def E.base : E → Nat
  | .leaf n => n
  | .node n _ _ => n
def E.top : E → Nat
  | .leaf n => n
  | .node n l r => n + max l.top r.top
def E.depth : E → Nat
  | .leaf _ => 0
  | .node _ l r => 1 + max l.depth r.depth
def E.isLeaf : E → Bool
  | .leaf _ => true
  | .node _ _ _ => false
def E.left : E → E
  | .leaf _ => .leaf 0
  | .node _ l _ => l
def E.right : E → E
  | .leaf _ => .leaf 0
  | .node _ _ r => r

def ERep (I : IM) : E → Nat → Option Addr → Prop
  | .leaf n, b, p => b = n ∧ p = none
  | .node n l r, b, p => b = n ∧ ∃ k bl pl br pr, p = some ⟨k, 0, none⟩ ∧
      I k = some (.cells #[.int .u64 ((bl : Nat) : Int), .pointer pl, .int .u64 ((br : Nat) : Int), .pointer pr, .int .u64 ((max l.top r.top : Nat) : Int), .int .i64 (((E.node n l r).depth : Nat) : Int)] 111) ∧ ERep I l bl pl ∧ ERep I r br pr
theorem ERep.mono {I J : IM} (le : I.Le J) : ∀ {t : E} {b : Nat} {p : Option Addr}, ERep I t b p → ERep J t b p
  | .leaf _, _, _, h => h
  | .node _ _ _, _, _, ⟨hb, k, bl, pl, br, pr, hp, hk, hl, hr⟩ => ⟨hb, k, bl, pl, br, pr, hp, le _ _ hk, hl.mono le, hr.mono le⟩
theorem ERep.base {I : IM} : ∀ {t : E} {b : Nat} {p : Option Addr}, ERep I t b p → b = t.base
  | .leaf _, _, _, h => h.1
  | .node _ _ _, _, _, h => h.1
end Go.Proofs.Ytgdickihjaomjaa.Ev

/- The program's event trees: lift, whole, Leaf, node, Node, Leq, Join, Same. -/
set_option linter.all false
set_option maxRecDepth 100000
namespace Go.Proofs.Ytgdickihjaomjaa.Ev
open Go.RowKit Go.Sep

def E.dn (n : Nat) : E → E
  | .leaf m => .leaf (m - n)
  | .node m l r => .node (m - n) l r
theorem ERep.dn {I : IM} (n : Nat) : ∀ {t : E} {b : Nat} {p : Option Addr}, ERep I t b p → ERep I (E.dn n t) (b - n) p
  | .leaf _, _, _, h => ⟨by rw [h.1], h.2⟩
  | .node _ _ _, _, _, ⟨hb, k, bl, pl, br, pr, hp, hk, hl, hr⟩ => ⟨by rw [hb], k, bl, pl, br, pr, hp, hk, hl, hr⟩
theorem E.dn_depth (n : Nat) : ∀ t : E, (E.dn n t).depth = t.depth
  | .leaf _ => rfl
  | .node _ _ _ => rfl
def E.mk (n : Nat) (l r : E) : E := if l.isLeaf = true ∧ r.isLeaf = true ∧ l.base = r.base then .leaf (n + l.base) else
  .node (n + min l.base r.base) (E.dn (min l.base r.base) l) (E.dn (min l.base r.base) r)

end Go.Proofs.Ytgdickihjaomjaa.Ev

/- The program's event trees: Node, Leq, Join, Same. -/
set_option linter.all false
set_option maxRecDepth 100000
namespace Go.Proofs.Ytgdickihjaomjaa.Ev
open Go.RowKit Go.Sep

theorem E.mk_depth (n : Nat) (l r : E) : (E.mk n l r).depth ≤ 1 + max l.depth r.depth := by
  unfold E.mk
  split
  · show 0 ≤ _; omega
  · show 1 + max (E.dn _ l).depth (E.dn _ r).depth ≤ _
    rw [E.dn_depth, E.dn_depth]; omega
end Go.Proofs.Ytgdickihjaomjaa.Ev

