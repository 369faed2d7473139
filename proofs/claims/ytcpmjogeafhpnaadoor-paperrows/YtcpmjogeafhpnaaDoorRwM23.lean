/- The card of the example. -/
import Derived.Test.YtcpmjogeafhpnaaDoorRwM22
import Derived.Test.YtcpmjogeafhpnaaDoorRwS14
import Derived.Test.YtcpmjogeafhpnaaDoorRwS16
import Derived.Test.YtcpmjogeafhpnaaDoorRwM16
import Derived.Test.YtcpmjogeafhpnaaDoorRwM21
set_option linter.all false
set_option maxRecDepth 100000
namespace Go.Proofs.YtcpmjogeafhpnaaDoor
open Go.RowKit Go.Sep
attribute [local irreducible] Go.wpList Go.Code.wp

theorem fsl_rb {I : IM} {k : Nat} (h : I k = some (.cells #[.int .i64 1, .string ⟨#[]⟩, .string ⟨#[65, 110, 110]⟩] 39)) : FSl I [x0] (.slice (some ⟨k, 0, none⟩) 1 1) := by
  refine ⟨some ⟨k, 0, none⟩, 1, rfl, Nat.le_refl _, fun j x hj => ?_⟩
  match j with
  | 0 => simp only [List.getElem?_cons_zero, Option.some.injEq] at hj; subst hj; exact ⟨k, 0, _, 39, (0, 0), rfl, h, rfl, rfl, rfl⟩
  | j + 1 => simp at hj
theorem fsl_addr {I : IM} {x : Fe} {a : Option Addr} {c : Nat} (h : FSl I [x] (.slice a 1 c)) : ∃ b o, a = some ⟨b, o, none⟩ := by
  obtain ⟨a', c', hv, hc, hr⟩ := h
  cases hv
  obtain ⟨b, o, cs, T, fr, rfl, h2⟩ := hr 0 x rfl
  exact ⟨b, o, rfl⟩
theorem row_one39 {v : Value} {F : List OB} (h : RowH 39 3 v (0 + 1) ([] ++ fc x0) F) : RowH 39 3 v 1 (fcs [x0]) F := h

set_option maxHeartbeats 1000000 in
theorem Ysearch_c {I : IM} : Fun Tryd.prog 97 #[.slice none 0 0, .agg #[.int .i64 1, .string ⟨#[]⟩, .string ⟨#[65, 110, 110]⟩], .func (.func 72) #[] #[]] I (fun v J => v = .tuple #[.int .i64 0, .bool false]) := by
 refine enter_rule 49 [(0, .slice none 0 0), (1, .agg #[.int .i64 1, .string ⟨#[]⟩, .string ⟨#[65, 110, 110]⟩]), (2, .func (.func 72) #[] #[])] Tryd.func97 rfl (by kernel_rfl) ?_
 intro w s
 refine seqR ?_
 refine oAD [] [] 3 [] 1 (fun φ1 => [(7, .bool false), (6, .int .i64 0), (4, pB (φ1 0))]) (fun φ1 => [(φ1 0, .cells #[.int .i64 1, .string ⟨#[]⟩, .string ⟨#[65, 110, 110]⟩] 39)]) (fun φ1 => []) s (fun φ1 => by kernel_rfl) (by kernel_rfl) ?_
 intro φ1 w1 s
 refine seqR ?_
 refine oKD _ [] 3 [] 0 (fun φ2 => [(8, .int .i64 0), (13, .int .i64 0), (12, .slice none 0 0)]) (fun φ2 => []) s (fun φ2 => by kernel_rfl) (by kernel_rfl) ?_
 intro φ2 w2 s
 refine seqR ?_
 refine oKD _ [] 3 [] 0 (fun φ3 => [(10, .int .i64 0), (9, .int .i64 0), (14, .int .i64 0)]) (fun φ3 => []) s (fun φ3 => by kernel_rfl) (by kernel_rfl) ?_
 intro φ3 w3 s
 refine wp_seq ?_
 refine wp_block ?_
 refine Go.wp_loop_rounds 1 ?_
 refine rounds_step (n := 0) ?_
 refine wp_seq ?_
 refine seqR ?_
 refine oKD _ [] 3 [] 0 (fun φ4 => [(17, .bool false), (16, .int .i64 0), (15, .int .i64 0)]) (fun φ4 => []) s (fun φ4 => by kernel_rfl) (by kernel_rfl) ?_
 intro φ4 w4 s
 refine cond_false_rule (b := false) (by kernel_rfl) rfl ?_
 refine wp_exit ?_
 refine wp_seq ?_
 refine draw_rule (C := []) ⟨(fun φ5 xs5 => [.look 0 [] [], .look 0 [] [], .look 0 [] [], .look 0 [] [], .look 0 [] [], .skip, .skip, .skip, .skip, .skip, .skip, .skip, .skip, .look 0 [] [], .look 0 [] [], .look 0 [] []]), (fun φ5 xs5 => [.int .i64 0, .int .i64 0, .int .i64 0, .bool false, .bool false, undef, undef, undef, undef, undef, undef, undef, undef, .bool false, .int .i64 0, .bool false]), (fun φ5 xs5 => [[(φ1 0, .cells #[.int .i64 1, .string ⟨#[]⟩, .string ⟨#[65, 110, 110]⟩] 39)]]), (fun φ5 xs5 => [[default, default, default, default, default, default, default, default, default, default, default, default, default, default, default, default]]), [], [1, 1, 1, 1, 1, 0, 0, 0, 0, 0, 0, 0, 0, 1, 1, 1]⟩ (fun j => ([MP.any] : List MP).getD j MP.any) [] [] [] (fun φ5 xs5 => []) (fun φ5 xs5 => [(35, .int .i64 0), (36, .int .i64 0), (37, .int .i64 0), (38, .bool false), (39, .bool false), (40, undef), (41, undef), (42, undef), (43, undef), (44, undef), (45, undef), (46, undef), (47, undef), (48, .bool false), (6, .int .i64 0), (7, .bool false)]) (fun φ5 xs5 => [(φ1 0, .cells #[.int .i64 1, .string ⟨#[]⟩, .string ⟨#[65, 110, 110]⟩] 39)]) s trivial (by kernel_rfl) (by kernel_rfl) (fun _ _ => by kernel_rfl) (fun _ _ => by kernel_rfl) ⟨fun _ _ => by kernel_rfl, fun _ _ => by kernel_rfl, fun _ _ => by kernel_rfl, fun _ _ => by kernel_rfl⟩ (fun _ _ _ => by kernel_rfl) (fun _ _ => by kernel_rfl) (fun _ _ => by kernel_rfl) (fun _ _ => by kernel_rfl) (fun _ _ => by kernel_rfl) (fun _ _ => by kernel_rfl) trivial trivial (by kernel_rfl) trivial ?k5
 case k5 =>
  rintro φ5 xs5 I5 w5 le5 s 
  refine wp_ret ?_
  refine ret_rule (C := []) [(φ1 0, .cells #[.int .i64 1, .string ⟨#[]⟩, .string ⟨#[65, 110, 110]⟩] 39)] [] (.tuple #[.int .i64 0, .bool false]) [] [] s trivial (by kernel_rfl) ?_
  exact ⟨_, _, _, rfl, s, rfl⟩

theorem semlem4 {w : World} : (Instr.sliceAt 22 (.slice none 0 0) (some (.int .i64 0)) none none).run Tryd.prog w = .ok (.slice none 0 0) w := by kernel_rfl
set_option maxHeartbeats 1000000 in
theorem insert_c {I : IM} {a0 : Option Addr} {c0 : Nat} (h0 : FSl I [x0] (.slice a0 1 c0)) : Fun Tryd.prog 98 #[.slice none 0 0, .int .i64 0, .slice a0 1 c0] I (fun v J => ∃ a c, v = .slice a 1 c ∧ FSl J [x0] (.slice a 1 c)) := by
 refine enter_rule 95 [(0, .slice none 0 0), (1, .int .i64 0), (2, .slice a0 1 c0)] Tryd.func98 rfl (by kernel_rfl) ?_
 intro w s
 refine seqR ?_
 refine oKD [] [] 1 [] 0 (fun φ1 => [(6, .slice none 0 0)]) (fun φ1 => []) s (fun φ1 => by kernel_rfl) (by kernel_rfl) ?_
 intro φ1 w1 s
 refine seqR ?_
 refine oK [] [] 2 [] 0 (fun φ2 => [(11, .int .i64 0), (10, .slice none 0 0)]) (fun φ2 => []) s (fun φ2 => by kernel_rfl) ?_
 intro φ2 w2 s
 refine sem_rule (Instr.sliceAt 22 (.slice none 0 0) (some (.int .i64 0)) none none) (some 12) (.slice none 0 0) (by kernel_rfl) (semlem4) ?_
 refine ops_done (by kernel_rfl) ?_
 refine seqR ?_
 refine oKD [] [] 3 [] 0 (fun φ3 => [(7, .int .i64 1), (14, .int .i64 1), (13, .slice a0 1 c0)]) (fun φ3 => []) s (fun φ3 => by kernel_rfl) (by kernel_rfl) ?_
 intro φ3 w3 s
 refine wp_seq ?_
 refine seqR ?_
 refine oKD [] [] 2 [] 0 (fun φ4 => [(16, .bool false), (15, .int .i64 1)]) (fun φ4 => []) s (fun φ4 => by kernel_rfl) (by kernel_rfl) ?_
 intro φ4 w4 s
 refine cond_false_rule (b := false) (by kernel_rfl) rfl ?_
 refine wp_skip ?_
 refine seqR ?_
 refine oKD [] [] 3 [] 0 (fun φ5 => [(8, .int .i64 0), (19, .int .i64 0), (18, .slice none 0 0)]) (fun φ5 => []) s (fun φ5 => by kernel_rfl) (by kernel_rfl) ?_
 intro φ5 w5 s
 refine wp_seq ?_
 refine seqR ?_
 refine oKD [] [] 3 [] 0 (fun φ6 => [(22, .bool true), (21, .int .i64 0), (20, .int .i64 0)]) (fun φ6 => []) s (fun φ6 => by kernel_rfl) (by kernel_rfl) ?_
 intro φ6 w6 s
 refine cond_true_rule (b := true) (by kernel_rfl) rfl ?_
 refine seqR ?_
 refine oK [] [] 2 [] 0 (fun φ7 => [(24, .slice a0 1 c0), (23, .slice none 0 0)]) (fun φ7 => []) s (fun φ7 => by kernel_rfl) ?_
 intro φ7 w7 s
 refine append_rule (H := []) (F := []) 22 22 39 Tryd.t39 (.agg #[.int .i64 0, .string ⟨#[]⟩, .string ⟨#[]⟩]) 3 40 (some 25) s Tryd.underlying22 (by kernel_rfl) (by kernel_rfl) (by kernel_rfl) (by kernel_rfl) (by kernel_rfl) (by decide) (RowH.nil 39 3) (src_fsl s.sub h0) (by simp only [maxLen]; omega) (by omega) (by kernel_rfl) ?_
 intro v8 w8 F8 s h8
 obtain ⟨J8, le8, hk8, s⟩ := freeze_row39 (H := []) (F := F8) s (row_one39 h8)
 obtain ⟨a8, c8, hv8, -, hk8⟩ := hk8.open
 subst hv8
 replace hk8 : FSl J8 [x0] (.slice a8 1 c8) := hk8
 refine oKD [] [] 1 [] 0 (fun φ9 => [(6, .slice a8 1 c8)]) (fun φ9 => []) s (fun φ9 => by kernel_rfl) (by kernel_rfl) ?_
 intro φ9 w9 s
 refine wp_ret ?_
 refine ret_rule (C := []) [] [] (.slice a8 1 c8) [] [] s trivial (by kernel_rfl) ?_
 exact ⟨_, _, _, rfl, s, ⟨_, _, rfl, hk8⟩⟩

theorem semlem5 {w : World} {b0 c0 o0 : Nat} : (binOp .eql 22 (.slice (some ⟨b0, o0, none⟩) 1 c0) (.slice none 0 0)).run Tryd.prog w = .ok (.bool false) w := by kernel_rfl
set_option maxHeartbeats 1000000 in
theorem cloneF1_c {I : IM} {a0 : Option Addr} {c0 : Nat} (h0 : FSl I [x0] (.slice a0 1 c0)) : Fun Tryd.prog 59 #[.slice a0 1 c0] I (fun v J => ∃ a c, v = .slice a 1 c ∧ FSl J [x0] (.slice a 1 c)) := by
 obtain ⟨b0, o0, rfl⟩ := fsl_addr h0
 refine enter_rule 8 [(0, .slice (some ⟨b0, o0, none⟩) 1 c0)] Tryd.func59 rfl (by kernel_rfl) ?_
 intro w s
 refine seqR ?_
 refine oKD [] [] 1 [] 0 (fun φ1 => [(2, .slice none 0 0)]) (fun φ1 => []) s (fun φ1 => by kernel_rfl) (by kernel_rfl) ?_
 intro φ1 w1 s
 refine wp_seq ?_
 refine seqR ?_
 refine oK [] [] 1 [] 0 (fun φ2 => [(3, .slice (some ⟨b0, o0, none⟩) 1 c0)]) (fun φ2 => []) s (fun φ2 => by kernel_rfl) ?_
 intro φ2 w2 s
 refine sem_rule (binOp .eql 22 (.slice (some ⟨b0, o0, none⟩) 1 c0) (.slice none 0 0)) (some 4) (.bool false) (by kernel_rfl) (semlem5) ?_
 refine ops_done (by kernel_rfl) ?_
 refine cond_false_rule (b := false) (by kernel_rfl) rfl ?_
 refine wp_skip ?_
 refine seqR ?_
 refine oA [] [] 2 [] 1 (fun φ3 => [(6, .slice (some ⟨b0, o0, none⟩) 1 c0), (5, .slice (some ⟨(φ3 0), 0, none⟩) 0 0)]) (fun φ3 => [(φ3 0, .cells #[] 39)]) (fun φ3 => []) s (fun φ3 => by kernel_rfl) ?_
 intro φ3 w3 s
 refine append_rule (H := []) (F := [(φ3 0, .cells #[] 39)]) 22 22 39 Tryd.t39 (.agg #[.int .i64 0, .string ⟨#[]⟩, .string ⟨#[]⟩]) 3 40 (some 7) s Tryd.underlying22 (by kernel_rfl) (by kernel_rfl) (by kernel_rfl) (by kernel_rfl) (by kernel_rfl) (by decide) (row_new39 (φ3 0)) (src_fsl s.sub h0) (by simp only [maxLen]; omega) (by omega) (by kernel_rfl) ?_
 intro v4 w4 F4 s h4
 obtain ⟨J4, le4, hk4, s⟩ := freeze_row39 (H := []) (F := F4) s (row_one39 h4)
 obtain ⟨a4, c4, hv4, -, hk4⟩ := hk4.open
 subst hv4
 replace hk4 : FSl J4 [x0] (.slice a4 1 c4) := hk4
 refine oKD [] [] 1 [] 0 (fun φ5 => [(2, .slice a4 1 c4)]) (fun φ5 => []) s (fun φ5 => by kernel_rfl) (by kernel_rfl) ?_
 intro φ5 w5 s
 refine wp_ret ?_
 refine ret_rule (C := []) [] [] (.slice a4 1 c4) [] [] s trivial (by kernel_rfl) ?_
 exact ⟨_, _, _, rfl, s, ⟨_, _, rfl, hk4⟩⟩

set_option maxHeartbeats 1000000 in
theorem fieldsF1_c {I : IM} {a0 : Option Addr} {c0 : Nat} (h0 : FSl I [x0] (.slice a0 1 c0)) : Fun Tryd.prog 19 #[.agg #[.slice a0 1 c0]] I (fun v J => ∃ a c, v = .slice a 1 c ∧ FSl J [x0] (.slice a 1 c)) := by
 refine enter_rule 6 [(0, .agg #[.slice a0 1 c0])] Tryd.func19 rfl (by kernel_rfl) ?_
 intro w s
 refine seqR ?_
 refine oAD [] [] 2 [] 1 (fun φ1 => [(2, .slice none 0 0), (1, pB (φ1 0))]) (fun φ1 => [(φ1 0, .cells #[.slice a0 1 c0] 26)]) (fun φ1 => []) s (fun φ1 => by kernel_rfl) (by kernel_rfl) ?_
 intro φ1 w1 s
 refine seqR ?_
 refine oK _ [] 2 [.o 0] 0 (fun φ2 => [(4, .slice a0 1 c0), (3, pB (φ1 0))]) (fun φ2 => [(φ1 0)]) s (fun φ2 => by kernel_rfl) ?_
 intro φ2 w2 s
 refine call_rule (some 5) s (cloneF1_c h0) (by kernel_rfl) ?_
 intro v3 I3 w3 le3 h3 s
 obtain ⟨a3, c3, rfl, h3_0⟩ := h3
 refine oKD _ [] 1 [] 0 (fun φ4 => [(2, .slice a3 1 c3)]) (fun φ4 => []) s (fun φ4 => by kernel_rfl) (by kernel_rfl) ?_
 intro φ4 w4 s
 refine wp_ret ?_
 refine ret_rule (C := []) _ [] (.slice a3 1 c3) [] [] s trivial (by kernel_rfl) ?_
 exact ⟨_, _, _, rfl, s, ⟨_, _, rfl, h3_0⟩⟩

set_option maxHeartbeats 2000000 in
theorem Yof_c {I : IM} {a0 : Option Addr} {c0 : Nat} (h0 : FSl I [x0] (.slice a0 1 c0)) : Fun Tryd.prog 57 #[.slice a0 1 c0] I (fun v J => ∃ a c, v = .tuple #[.agg #[.slice a 1 c], .int .i64 0] ∧ FSl J [x0] (.slice a 1 c)) := by
 refine enter_rule 34 [(0, .slice a0 1 c0)] Tryd.func57 rfl (by kernel_rfl) ?_
 intro w s
 refine seqR ?_
 refine oAD [] [] 2 [] 1 (fun φ1 => [(3, .int .i64 0), (2, pB (φ1 0))]) (fun φ1 => [(φ1 0, .cells #[.slice none 0 0] 26)]) (fun φ1 => []) s (fun φ1 => by kernel_rfl) (by kernel_rfl) ?_
 intro φ1 w1 s
 refine seqR ?_
 refine oKD _ [] 1 [] 0 (fun φ2 => [(4, .slice none 0 0)]) (fun φ2 => []) s (fun φ2 => by kernel_rfl) (by kernel_rfl) ?_
 intro φ2 w2 s
 refine wp_seq ?_
 refine seqR ?_
 refine oKD _ [] 3 [] 0 (fun φ3 => [(11, .int .i64 0), (10, .int .i64 1), (9, .slice a0 1 c0)]) (fun φ3 => []) s (fun φ3 => by kernel_rfl) (by kernel_rfl) ?_
 intro φ3 w3 s
 refine wp_block ?_
 refine Go.wp_loop_rounds 2 ?_
 refine rounds_step (n := 1) ?_
 refine seqR ?_
 refine oKD _ [] 1 [] 0 (fun φ4 => [(12, .bool true)]) (fun φ4 => []) s (fun φ4 => by kernel_rfl) (by kernel_rfl) ?_
 intro φ4 w4 s
 refine wp_seq ?_
 refine cond_true_rule (b := true) (by kernel_rfl) rfl ?_
 refine wp_skip ?_
 refine wp_seq ?_
 refine wp_block ?_
 refine seqR ?_
 refine sem_rule (Instr.indexAt 22 (.slice a0 1 c0) (.int .i64 0)) (some 13) (.pointer (pAt a0 (0 * 3))) (by kernel_rfl) (fsl_idx22 (i := 0) h0 (by decide)) ?_
 refine sem_rule (Instr.loadAt 39 (.pointer (pAt a0 (0 * 3)))) (some 14) (.agg #[.int .i64 1, .string ⟨#[]⟩, .string ⟨#[65, 110, 110]⟩]) (by kernel_rfl) (fsl_ld39 (i := 0) s.sub h0 (by decide)) ?_
 refine oAD _ [] 2 [.o 1, .o 1, .o 1] 1 (fun φ5 => [(6, pB (φ5 0))]) (fun φ5 => [(φ1 0, .cells #[.slice none 0 0] 26), (φ5 0, .cells #[.int .i64 1, .string ⟨#[]⟩, .string ⟨#[65, 110, 110]⟩] 39)]) (fun φ5 => [φ5 0, φ5 0, φ5 0]) s (fun φ5 => by kernel_rfl) (by kernel_rfl) ?_
 intro φ5 w5 s
 refine seqR ?_
 refine oK _ [] 2 [.o 1, .o 1, .o 1] 0 (fun φ6 => [(17, .agg #[.int .i64 1, .string ⟨#[]⟩, .string ⟨#[65, 110, 110]⟩]), (16, .slice none 0 0)]) (fun φ6 => [φ5 0, φ5 0, φ5 0]) s (fun φ6 => by kernel_rfl) ?_
 intro φ6 w6 s
 refine call_rule (some 18) s (Ysearch_c) (by kernel_rfl) ?_
 intro v7 I7 w7 le7 h7 s
 obtain rfl := h7
 refine oKD _ [] 5 [] 0 (fun φ8 => [(8, .bool false), (7, .int .i64 0), (20, .bool false), (19, .int .i64 0), (15, .tuple #[.int .i64 0, .bool false])]) (fun φ8 => []) s (fun φ8 => by kernel_rfl) (by kernel_rfl) ?_
 intro φ8 w8 s
 refine wp_seq ?_
 refine seqR ?_
 refine oKD _ [] 1 [] 0 (fun φ9 => [(21, .bool false)]) (fun φ9 => []) s (fun φ9 => by kernel_rfl) (by kernel_rfl) ?_
 intro φ9 w9 s
 refine cond_false_rule (b := false) (by kernel_rfl) rfl ?_
 refine wp_skip ?_
 refine wp_seq ?_
 refine seqR ?_
 refine oKD _ [] 3 [] 0 (fun φ10 => [(24, .bool false), (23, .int .i64 0), (22, .slice none 0 0)]) (fun φ10 => []) s (fun φ10 => by kernel_rfl) (by kernel_rfl) ?_
 intro φ10 w10 s
 refine cond_false_rule (b := false) (by kernel_rfl) rfl ?_
 refine wp_skip ?_
 refine region_rule ?_
 refine oA _ [] 4 [.o 1, .o 1, .o 1] 1 (fun φ11 => [(29, .slice (some ⟨(φ11 0), 0, none⟩) 1 1), (28, .agg #[.int .i64 1, .string ⟨#[]⟩, .string ⟨#[65, 110, 110]⟩]), (27, .int .i64 0), (26, .slice none 0 0)]) (fun φ11 => [(φ1 0, .cells #[.slice none 0 0] 26), (φ5 0, .cells #[.int .i64 1, .string ⟨#[]⟩, .string ⟨#[65, 110, 110]⟩] 39), (φ11 0, .cells #[.int .i64 1, .string ⟨#[]⟩, .string ⟨#[65, 110, 110]⟩] 39)]) (fun φ11 => [φ5 0, φ5 0, φ5 0]) s (fun φ11 => by kernel_rfl) ?_
 intro φ11 w11 s
 obtain ⟨I12, le12, hk12, s⟩ := s.freezeAt 2 (φ11 0) (.cells #[.int .i64 1, .string ⟨#[]⟩, .string ⟨#[65, 110, 110]⟩] 39) [((φ1 0), .cells #[.slice none 0 0] 26), ((φ5 0), .cells #[.int .i64 1, .string ⟨#[]⟩, .string ⟨#[65, 110, 110]⟩] 39)] (by kernel_rfl) (by kernel_rfl)
 have hf13 := fsl_rb hk12
 refine call_rule (some 30) s (insert_c hf13) (by kernel_rfl) ?_
 intro v14 I14 w14 le14 h14 s
 obtain ⟨a14, c14, rfl, h14_0⟩ := h14
 refine oKD [(φ1 0, .cells #[.slice none 0 0] 26), (φ5 0, .cells #[.int .i64 1, .string ⟨#[]⟩, .string ⟨#[65, 110, 110]⟩] 39)] [] 1 [] 0 (fun φ15 => [(4, .slice a14 1 c14)]) (fun φ15 => []) s (fun φ15 => by kernel_rfl) (by kernel_rfl) ?_
 intro φ15 w15 s
 refine region_rule ?_
 refine oKD _ [] 2 [] 0 (fun φ16 => [(11, .int .i64 1), (31, .int .i64 1)]) (fun φ16 => []) s (fun φ16 => by kernel_rfl) (by kernel_rfl) ?_
 intro φ16 w16 s
 refine rounds_step (n := 0) ?_
 refine seqR ?_
 refine oKD _ [] 1 [] 0 (fun φ17 => [(12, .bool false)]) (fun φ17 => []) s (fun φ17 => by kernel_rfl) (by kernel_rfl) ?_
 intro φ17 w17 s
 refine wp_seq ?_
 refine cond_false_rule (b := false) (by kernel_rfl) rfl ?_
 refine wp_exit ?_
 refine seqR ?_
 refine oAD _ [] 4 [.o 0] 0 (fun φ18 => [(3, .int .i64 0), (33, .agg #[.slice a14 1 c14]), (32, .slice a14 1 c14)]) (fun φ18 => [(φ1 0, .cells #[.slice a14 1 c14] 26), (φ5 0, .cells #[.int .i64 1, .string ⟨#[]⟩, .string ⟨#[65, 110, 110]⟩] 39)]) (fun φ18 => [(φ1 0)]) s (fun φ18 => by kernel_rfl) (by kernel_rfl) ?_
 intro φ18 w18 s
 refine wp_ret ?_
 refine ret_rule (C := []) _ [] (.tuple #[.agg #[.slice a14 1 c14], .int .i64 0]) [.o 0] [(φ1 0)] s trivial (by kernel_rfl) ?_
 exact ⟨_, _, _, rfl, s, ⟨_, _, rfl, h14_0⟩⟩

set_option maxHeartbeats 2000000 in
theorem Ymake_c {I : IM} {a0 : Option Addr} {c0 : Nat} (h0 : FSl I [x0] (.slice a0 1 c0)) (hN : NmT I) (hT : Tx.U8 I) : Fun Tryd.prog 15 #[.slice a0 1 c0] I (fun v J => ∃ a c, v = .tuple #[.agg #[.slice a 1 c], .int .i64 0] ∧ FSl J [x0] (.slice a 1 c)) := by
 refine enter_rule 24 [(0, .slice a0 1 c0)] Tryd.func15 rfl (by kernel_rfl) ?_
 intro w s
 refine seqR ?_
 refine oAD [] [] 2 [] 1 (fun φ1 => [(3, .int .i64 0), (2, pB (φ1 0))]) (fun φ1 => [(φ1 0, .cells #[.slice none 0 0] 26)]) (fun φ1 => []) s (fun φ1 => by kernel_rfl) (by kernel_rfl) ?_
 intro φ1 w1 s
 refine wp_seq ?_
 refine seqR ?_
 refine oKD _ [] 3 [] 0 (fun φ2 => [(9, .int .i64 0), (8, .int .i64 1), (7, .slice a0 1 c0)]) (fun φ2 => []) s (fun φ2 => by kernel_rfl) (by kernel_rfl) ?_
 intro φ2 w2 s
 refine wp_block ?_
 refine Go.wp_loop_rounds 2 ?_
 refine rounds_step (n := 1) ?_
 refine seqR ?_
 refine oKD _ [] 1 [] 0 (fun φ3 => [(10, .bool true)]) (fun φ3 => []) s (fun φ3 => by kernel_rfl) (by kernel_rfl) ?_
 intro φ3 w3 s
 refine wp_seq ?_
 refine cond_true_rule (b := true) (by kernel_rfl) rfl ?_
 refine wp_skip ?_
 refine wp_seq ?_
 refine wp_block ?_
 refine seqR ?_
 refine sem_rule (Instr.indexAt 22 (.slice a0 1 c0) (.int .i64 0)) (some 11) (.pointer (pAt a0 (0 * 3))) (by kernel_rfl) (fsl_idx22 (i := 0) h0 (by decide)) ?_
 refine sem_rule (Instr.loadAt 39 (.pointer (pAt a0 (0 * 3)))) (some 12) (.agg #[.int .i64 1, .string ⟨#[]⟩, .string ⟨#[65, 110, 110]⟩]) (by kernel_rfl) (fsl_ld39 (i := 0) s.sub h0 (by decide)) ?_
 refine oAD _ [] 2 [.o 1, .o 1, .o 1] 1 (fun φ4 => [(5, pB (φ4 0))]) (fun φ4 => [(φ1 0, .cells #[.slice none 0 0] 26), (φ4 0, .cells #[.int .i64 1, .string ⟨#[]⟩, .string ⟨#[65, 110, 110]⟩] 39)]) (fun φ4 => [φ4 0, φ4 0, φ4 0]) s (fun φ4 => by kernel_rfl) (by kernel_rfl) ?_
 intro φ4 w4 s
 refine seqR ?_
 refine oK _ [] 1 [.o 1, .o 1, .o 1] 0 (fun φ5 => [(13, .agg #[.int .i64 1, .string ⟨#[]⟩, .string ⟨#[65, 110, 110]⟩])]) (fun φ5 => [φ4 0, φ4 0, φ4 0]) s (fun φ5 => by kernel_rfl) ?_
 intro φ5 w5 s
 refine call_rule (some 14) s (right_c hN hT) (by kernel_rfl) ?_
 intro v6 I6 w6 le6 h6 s
 replace h0 := FSl.mono le6 h0
 obtain rfl := h6
 refine oKD _ [] 1 [] 0 (fun φ7 => [(6, .int .i64 0)]) (fun φ7 => []) s (fun φ7 => by kernel_rfl) (by kernel_rfl) ?_
 intro φ7 w7 s
 refine seqR ?_
 refine oKD _ [] 2 [] 0 (fun φ8 => [(16, .bool false), (15, .int .i64 0)]) (fun φ8 => []) s (fun φ8 => by kernel_rfl) (by kernel_rfl) ?_
 intro φ8 w8 s
 refine cond_false_rule (b := false) (by kernel_rfl) rfl ?_
 refine wp_skip ?_
 refine region_rule ?_
 refine oKD _ [] 2 [] 0 (fun φ9 => [(9, .int .i64 1), (19, .int .i64 1)]) (fun φ9 => []) s (fun φ9 => by kernel_rfl) (by kernel_rfl) ?_
 intro φ9 w9 s
 refine rounds_step (n := 0) ?_
 refine seqR ?_
 refine oKD _ [] 1 [] 0 (fun φ10 => [(10, .bool false)]) (fun φ10 => []) s (fun φ10 => by kernel_rfl) (by kernel_rfl) ?_
 intro φ10 w10 s
 refine wp_seq ?_
 refine cond_false_rule (b := false) (by kernel_rfl) rfl ?_
 refine wp_exit ?_
 refine seqR ?_
 refine oK _ [] 1 [] 0 (fun φ11 => [(20, .slice a0 1 c0)]) (fun φ11 => []) s (fun φ11 => by kernel_rfl) ?_
 intro φ11 w11 s
 refine call_rule (some 21) s (Yof_c h0) (by kernel_rfl) ?_
 intro v12 I12 w12 le12 h12 s
 obtain ⟨a12, c12, rfl, h12_0⟩ := h12
 refine oAD _ [] 4 [.o 0] 0 (fun φ13 => [(3, .int .i64 0), (23, .int .i64 0), (22, .agg #[.slice a12 1 c12])]) (fun φ13 => [(φ1 0, .cells #[.slice a12 1 c12] 26), (φ4 0, .cells #[.int .i64 1, .string ⟨#[]⟩, .string ⟨#[65, 110, 110]⟩] 39)]) (fun φ13 => [(φ1 0)]) s (fun φ13 => by kernel_rfl) (by kernel_rfl) ?_
 intro φ13 w13 s
 refine wp_ret ?_
 refine ret_rule (C := []) _ [] (.tuple #[.agg #[.slice a12 1 c12], .int .i64 0]) [.o 0] [(φ1 0)] s trivial (by kernel_rfl) ?_
 exact ⟨_, _, _, rfl, s, ⟨_, _, rfl, h12_0⟩⟩

end Go.Proofs.YtcpmjogeafhpnaaDoor
/- The example. -/
set_option linter.all false
set_option maxRecDepth 100000
namespace Go.Proofs.YtcpmjogeafhpnaaDoor
open Go.RowKit Go.Sep
attribute [local irreducible] Go.wpList Go.Code.wp

theorem enc_ann : ([] ++ encL [x0]) = ([1, 1, 0, 3, 65, 110, 110] : List UInt8) := by decide +kernel
theorem okx0 : okL [x0] := fun i hi => by
  have : i = 0 := by simp only [List.length_cons, List.length_nil] at hi; omega
  subst this
  exact ⟨by decide, by decide, by decide, by decide⟩

theorem put1_c {I : IM} {a0 : Option Addr} {c0 : Nat} (h0 : FSl I [x0] (.slice a0 1 c0)) : Fun Tryd.prog 82 #[.slice none 0 0, .slice a0 1 c0] I (fun v J => ∃ a c, v = .slice a 7 c ∧ BSl J ([1, 1, 0, 3, 65, 110, 110] : List UInt8) (.slice a 7 c)) := by
  have h := putFields_c (l := []) (L := [x0]) (a := none) (c := 0) (bsl_nil I) (by decide) h0 (by decide) okx0
  rw [enc_ann] at h
  exact h
set_option maxHeartbeats 1000000 in
theorem putCard_c {I : IM} {a0 : Option Addr} {c0 : Nat} (h0 : FSl I [x0] (.slice a0 1 c0)) : Fun Tryd.prog 50 #[.slice none 0 0, .agg #[.slice a0 1 c0]] I (fun v J => ∃ a c, v = .slice a 7 c ∧ BSl J ([1, 1, 0, 3, 65, 110, 110] : List UInt8) (.slice a 7 c)) := by
 refine enter_rule 9 [(0, .slice none 0 0), (1, .agg #[.slice a0 1 c0])] Tryd.func50 rfl (by kernel_rfl) ?_
 intro w s
 refine seqR ?_
 refine oAD [] [] 2 [] 1 (fun φ1 => [(4, .slice none 0 0), (3, pB (φ1 0))]) (fun φ1 => [(φ1 0, .cells #[.slice a0 1 c0] 26)]) (fun φ1 => []) s (fun φ1 => by kernel_rfl) (by kernel_rfl) ?_
 intro φ1 w1 s
 refine seqR ?_
 refine oK _ [] 2 [.o 0] 0 (fun φ2 => [(6, .agg #[.slice a0 1 c0]), (5, .slice none 0 0)]) (fun φ2 => [(φ1 0)]) s (fun φ2 => by kernel_rfl) ?_
 intro φ2 w2 s
 refine call_rule (some 7) s (fieldsF1_c h0) (by kernel_rfl) ?_
 intro v3 I3 w3 le3 h3 s
 obtain ⟨a3, c3, rfl, h3_0⟩ := h3
 refine call_rule (some 8) s (put1_c h3_0) (by kernel_rfl) ?_
 intro v4 I4 w4 le4 h4 s
 obtain ⟨a4, c4, rfl, h4_0⟩ := h4
 refine oKD _ [] 1 [] 0 (fun φ5 => [(4, .slice a4 7 c4)]) (fun φ5 => []) s (fun φ5 => by kernel_rfl) (by kernel_rfl) ?_
 intro φ5 w5 s
 refine wp_ret ?_
 refine ret_rule (C := []) _ [] (.slice a4 7 c4) [] [] s trivial (by kernel_rfl) ?_
 exact ⟨_, _, _, rfl, s, ⟨_, _, rfl, h4_0⟩⟩

set_option maxHeartbeats 1000000 in
theorem card_c {I : IM} {a0 : Option Addr} {c0 : Nat} (h0 : FSl I [x0] (.slice a0 1 c0)) : Fun Tryd.prog 42 #[.agg #[.slice a0 1 c0]] I (fun v J => ∃ a c, v = .slice a 7 c ∧ BSl J ([1, 1, 0, 3, 65, 110, 110] : List UInt8) (.slice a 7 c)) := by
 refine enter_rule 5 [(0, .agg #[.slice a0 1 c0])] Tryd.func42 rfl (by kernel_rfl) ?_
 intro w s
 refine seqR ?_
 refine oAD [] [] 2 [] 1 (fun φ1 => [(2, .slice none 0 0), (1, pB (φ1 0))]) (fun φ1 => [(φ1 0, .cells #[.slice a0 1 c0] 26)]) (fun φ1 => []) s (fun φ1 => by kernel_rfl) (by kernel_rfl) ?_
 intro φ1 w1 s
 refine seqR ?_
 refine oK _ [] 1 [.o 0] 0 (fun φ2 => [(3, .agg #[.slice a0 1 c0])]) (fun φ2 => [(φ1 0)]) s (fun φ2 => by kernel_rfl) ?_
 intro φ2 w2 s
 refine call_rule (some 4) s (putCard_c h0) (by kernel_rfl) ?_
 intro v3 I3 w3 le3 h3 s
 obtain ⟨a3, c3, rfl, h3_0⟩ := h3
 refine oKD _ [] 1 [] 0 (fun φ4 => [(2, .slice a3 7 c3)]) (fun φ4 => []) s (fun φ4 => by kernel_rfl) (by kernel_rfl) ?_
 intro φ4 w4 s
 refine wp_ret ?_
 refine ret_rule (C := []) _ [] (.slice a3 7 c3) [] [] s trivial (by kernel_rfl) ?_
 exact ⟨_, _, _, rfl, s, ⟨_, _, rfl, h3_0⟩⟩

set_option maxHeartbeats 2000000 in
theorem awakeP_c {I : IM} (hN : NmT I) (hT : Tx.U8 I) : Fun Tryd.prog 37 #[] I (fun v J => v = .bool true) := by
 refine enter_rule 13 [] Tryd.func37 rfl (by kernel_rfl) ?_
 intro w s
 refine seqR ?_
 refine oKD [] [] 1 [] 0 (fun φ1 => [(0, .bool false)]) (fun φ1 => []) s (fun φ1 => by kernel_rfl) (by kernel_rfl) ?_
 intro φ1 w1 s
 refine seqR ?_
 refine oA [] [] 2 [] 1 (fun φ2 => [(5, .slice (some ⟨(φ2 0), 0, none⟩) 1 1), (4, .agg #[.int .i64 1, .string ⟨#[]⟩, .string ⟨#[65, 110, 110]⟩])]) (fun φ2 => [(φ2 0, .cells #[.int .i64 1, .string ⟨#[]⟩, .string ⟨#[65, 110, 110]⟩] 39)]) (fun φ2 => []) s (fun φ2 => by kernel_rfl) ?_
 intro φ2 w2 s
 obtain ⟨I3, le3, hk3, s⟩ := s.freezeAt 0 (φ2 0) (.cells #[.int .i64 1, .string ⟨#[]⟩, .string ⟨#[65, 110, 110]⟩] 39) [] (by kernel_rfl) (by kernel_rfl)
 replace hN := NmT.mono le3 hN
 replace hT := u8_mono le3 hT
 have hf4 := fsl_rb hk3
 refine call_rule (some 6) s (Ymake_c hf4 hN hT) (by kernel_rfl) ?_
 intro v5 I5 w5 le5 h5 s
 obtain ⟨a5, c5, rfl, h5_0⟩ := h5
 refine oAD [] [] 6 [.o 0] 1 (fun φ6 => [(2, .int .i64 0), (1, pB (φ6 0)), (8, .int .i64 0), (7, .agg #[.slice a5 1 c5]), (3, .tuple #[.agg #[.slice a5 1 c5], .int .i64 0])]) (fun φ6 => [(φ6 0, .cells #[.slice a5 1 c5] 26)]) (fun φ6 => [(φ6 0)]) s (fun φ6 => by kernel_rfl) (by kernel_rfl) ?_
 intro φ6 w6 s
 refine seqR ?_
 refine oK _ [] 1 [.o 0] 0 (fun φ7 => [(9, .agg #[.slice a5 1 c5])]) (fun φ7 => [(φ6 0)]) s (fun φ7 => by kernel_rfl) ?_
 intro φ7 w7 s
 refine call_rule (some 10) s (card_c h5_0) (by kernel_rfl) ?_
 intro v8 I8 w8 le8 h8 s
 obtain ⟨a8, c8, rfl, h8_0⟩ := h8
 refine oA _ [] 1 [] 1 (fun φ9 => [(11, .slice (some ⟨(φ9 0), 0, none⟩) 7 7)]) (fun φ9 => [(φ6 0, .cells #[.slice a5 1 c5] 26), (φ9 0, .cells #[.int .u8 1, .int .u8 1, .int .u8 0, .int .u8 3, .int .u8 65, .int .u8 110, .int .u8 110] 5)]) (fun φ9 => []) s (fun φ9 => by kernel_rfl) ?_
 intro φ9 w9 s
 obtain ⟨I10, le10, hk10, s⟩ := s.freezeAt 1 (φ9 0) (.cells #[.int .u8 1, .int .u8 1, .int .u8 0, .int .u8 3, .int .u8 65, .int .u8 110, .int .u8 110] 5) [((φ6 0), .cells #[.slice a5 1 c5] 26)] (by kernel_rfl) (by kernel_rfl)
 replace h8_0 := BSl.mono le10 h8_0
 refine call_rule (some 12) s (sameR_c (l := ([1, 1, 0, 3, 65, 110, 110] : List UInt8)) h8_0 (bsl_lit (l := ([1, 1, 0, 3, 65, 110, 110] : List UInt8)) hk10 (by kernel_rfl) rfl) (by decide)) (by kernel_rfl) ?_
 intro v11 I11 w11 le11 h11 s
 obtain rfl := h11
 refine oKD [(φ6 0, .cells #[.slice a5 1 c5] 26)] [] 1 [] 0 (fun φ12 => [(0, .bool true)]) (fun φ12 => []) s (fun φ12 => by kernel_rfl) (by kernel_rfl) ?_
 intro φ12 w12 s
 refine wp_ret ?_
 refine ret_rule (C := []) _ [] (.bool true) [] [] s trivial (by kernel_rfl) ?_
 exact ⟨_, _, _, rfl, s, rfl⟩

end Go.Proofs.YtcpmjogeafhpnaaDoor
/- What is written of a card is read again. -/
set_option linter.all false
set_option maxRecDepth 100000
namespace Go.Proofs.YtcpmjogeafhpnaaDoor
open Go.RowKit Go.Sep
theorem num_small {n : Nat} {rest : List UInt8} (h : n < 128) : numN (encF 9 n ++ rest) = n ∧ numK (encF 9 n ++ rest) = 1 := by
  rw [encF_stop h]
  have hb : (UInt8.ofNat (n % 256)).toNat = n := by rw [UInt8.toNat_ofNat']; omega
  have hl : Lead ([UInt8.ofNat (n % 256)] ++ rest) 0 := ⟨by omega, by simp, fun j hj => by omega, .inr (.inr (by show (UInt8.ofNat (n % 256)).toNat < 128; rw [hb]; exact h))⟩
  have hn : ¬ badN ([UInt8.ofNat (n % 256)] ++ rest) 0 := by
    unfold badN
    rintro (q | q | q | q)
    · simp at q
    · omega
    · omega
    · omega
  obtain ⟨h1, h2⟩ := num_good hl hn
  refine ⟨h1.trans ?_, h2⟩
  show (UInt8.ofNat (n % 256)).toNat % 128 + 128 * 0 = n
  rw [hb]; omega
theorem te_fwd {s rest : List UInt8} {z : Nat} (h : s.length ≤ z) (hz : z < 128) : teV ((encF 9 s.length ++ s) ++ rest) 0 ((z : Nat) : Int) = s ∧ teD ((encF 9 s.length ++ s) ++ rest) 0 ((z : Nat) : Int) = 1 + s.length ∧ teE ((encF 9 s.length ++ s) ++ rest) 0 ((z : Nat) : Int) = 0 := by
  obtain ⟨n1, n2⟩ := num_small (n := s.length) (rest := s ++ rest) (by omega)
  rw [List.append_assoc]
  have hk1 : (encF 9 s.length).length = 1 := by rw [encF_stop (by omega)]; rfl
  have hl : (encF 9 s.length ++ (s ++ rest)).length = 1 + (s.length + rest.length) := by rw [List.length_append, List.length_append, hk1]
  have ho : okT (encF 9 s.length ++ (s ++ rest)) 0 ((z : Nat) : Int) := ⟨rfl, by rw [n2]; decide, by rw [n1]; omega, by rw [n1, n2, hl]; omega⟩
  refine ⟨(if_pos ho).trans ?_, (if_pos ho).trans (by rw [n1, n2]), ?_⟩
  · rw [n1, n2, List.drop_left' hk1, List.take_left' rfl]
  · unfold teE
    rw [if_pos rfl, n1, n2, if_neg (by decide), if_neg (by omega), if_neg (by rw [hl]; omega)]
theorem by_fwd {b : UInt8} {rest : List UInt8} : byV ([b] ++ rest) 0 = b.toNat ∧ byD ([b] ++ rest) 0 = 1 ∧ byE ([b] ++ rest) 0 = 0 := by
  unfold byV byD byE; simp
theorem te_drop {s rest : List UInt8} (h : s.length < 128) : ((encF 9 s.length ++ s) ++ rest).drop (1 + s.length) = rest := by
  have hk1 : (encF 9 s.length).length = 1 := by rw [encF_stop h]; rfl
  exact List.drop_left' (by rw [List.length_append, hk1])
theorem encFe_lenX {x : Fe} (ha : x.a.length < 128) (hv : x.v.length < 128) : (encFe x).length = 1 + (1 + x.a.length) + (1 + x.v.length) := by
  have h1 : (encF 9 x.a.length).length = 1 := by rw [encF_stop ha]; rfl
  have h2 : (encF 9 x.v.length).length = 1 := by rw [encF_stop hv]; rfl
  unfold encFe
  simp only [List.length_append, h1, h2, List.length_cons, List.length_nil]
theorem fd_fwd {x : Fe} {rest : List UInt8} (hk : 0 ≤ x.k ∧ x.k ≤ 255) (ha : x.a.length ≤ 12) (hv : x.v.length ≤ 40) : fdG (encFe x ++ rest) 0 12 40 = ⟨x.k.toNat, x.a, x.v, (encFe x).length, 0⟩ ∧ (encFe x ++ rest).drop (encFe x).length = rest := by
  refine ⟨?_, List.drop_left' rfl⟩
  have e : encFe x ++ rest = [UInt8.ofNat x.k.toNat] ++ ((encF 9 x.a.length ++ x.a) ++ ((encF 9 x.v.length ++ x.v) ++ rest)) := by
    unfold encFe; simp only [List.append_assoc]
  obtain ⟨b1, b2, b3⟩ := by_fwd (b := UInt8.ofNat x.k.toNat) (rest := (encF 9 x.a.length ++ x.a) ++ ((encF 9 x.v.length ++ x.v) ++ rest))
  obtain ⟨a1, a2, a3⟩ := te_fwd (s := x.a) (rest := (encF 9 x.v.length ++ x.v) ++ rest) (z := 12) ha (by decide)
  obtain ⟨v1, v2, v3⟩ := te_fwd (s := x.v) (rest := rest) (z := 40) hv (by decide)
  have hd : ([UInt8.ofNat x.k.toNat] ++ ((encF 9 x.a.length ++ x.a) ++ ((encF 9 x.v.length ++ x.v) ++ rest))).drop 1 = (encF 9 x.a.length ++ x.a) ++ ((encF 9 x.v.length ++ x.v) ++ rest) := rfl
  have hb : (UInt8.ofNat x.k.toNat).toNat = x.k.toNat := by rw [UInt8.toNat_ofNat']; omega
  rw [encFe_lenX (by omega) (by omega), e]
  unfold fdG
  rw [b1, b2, b3, hd, a1, a2, a3, te_drop (by omega), v1, v2, v3, hb]
theorem chain_tail {p x : Fe} {L : List Fe} (h : chain p (x :: L)) : lesFe p x = true ∧ chain x L := by
  refine ⟨h 0 (by simp), fun i hi => ?_⟩
  have := h (i + 1) (by simpa using hi)
  rw [if_neg (by omega), Nat.add_sub_cancel] at this
  cases i with
  | zero => simpa using this
  | succ i => simpa using this
theorem cR_fwd : ∀ (L : List Fe) (p : Fe) (rest : List UInt8), (∀ x ∈ L, rtFe x = 0) → chain p L → cR L.length p (L.flatMap encFe ++ rest) = (L, rest, 0)
  | [], p, rest, _, _ => rfl
  | x :: L, p, rest, hr, hc => by
    have h0 := hr x (by simp)
    obtain ⟨r1, r2, r3⟩ := rt_small h0
    obtain ⟨c1, c2⟩ := chain_tail hc
    rw [List.flatMap_cons, List.append_assoc]
    obtain ⟨f1, f2⟩ := fd_fwd (x := x) (rest := L.flatMap encFe ++ rest) (by omega) r2 r3
    have ek : ((x.k.toNat : Nat) : Int) = x.k := by omega
    have ex : (⟨((x.k.toNat : Nat) : Int), x.a, x.v⟩ : Fe) = x := by rw [ek]
    have := cR_ok (n := L.length) (p := p) f1 f2 rfl (by rw [ek]; exact h0) (by rw [ex]; exact c1)
    rw [ex, cR_fwd L x rest (fun y hy => hr y (by simp [hy])) c2] at this
    exact this
theorem chain_z {X : List Fe} (ha : asc X) (hr : ∀ x ∈ X, rtFe x = 0) : chain Fe.z X := fun i hi => by
  cases i with
  | zero =>
    rw [if_pos rfl]
    have h := (rt_small (hr (X.getD 0 Fe.z) (by simp [hi]))).1
    unfold lesFe Tx.lesF
    rw [if_pos (by show (0 : Int) ≠ _; omega)]
    exact decide_eq_true (by show (0 : Int) < _; omega)
  | succ i =>
    rw [if_neg (by omega), Nat.add_sub_cancel]
    exact ha i hi
/-- a card's bytes are read again, whatever stands behind -/
theorem gcP_fwd {X : List Fe} {rest : List UInt8} (ha : asc X) (hr : ∀ x ∈ X, rtFe x = 0) (h8 : X.length ≤ 8) : gcP (encL X ++ rest) = (X, rest, 0) := by
  have e : encL X ++ rest = encF 9 X.length ++ (X.flatMap encFe ++ rest) := by unfold encL; rw [List.append_assoc]
  obtain ⟨n1, n2⟩ := num_small (n := X.length) (rest := X.flatMap encFe ++ rest) (by omega)
  have hk1 : (encF 9 X.length).length = 1 := by rw [encF_stop (by omega)]; rfl
  rw [e]
  have v1 : nuV (encF 9 X.length ++ (X.flatMap encFe ++ rest)) 0 = X.length := (if_pos rfl).trans n1
  have v2 : nuD (encF 9 X.length ++ (X.flatMap encFe ++ rest)) 0 = 1 := (if_pos rfl).trans n2
  have v3 : nuE (encF 9 X.length ++ (X.flatMap encFe ++ rest)) 0 = 0 := if_neg (by rw [n2]; omega)
  have c : coG (encF 9 X.length ++ (X.flatMap encFe ++ rest)) 0 8 8 = (X.length, 0) := by
    unfold coG; rw [v1, v3, if_neg (by omega)]
  unfold gcP
  rw [c, v2, List.drop_left' hk1, cR_fwd X Fe.z rest hr (chain_z ha hr)]
  rfl
theorem encL_lenX {X : List Fe} (h : ∀ x ∈ X, x.a.length ≤ 60 ∧ x.v.length ≤ 60) : (encL X).length ≤ 10 + X.length * 123 := by
  have h1 := (encF_len 9 X.length).2
  have h2 : ∀ (L : List Fe), (∀ x ∈ L, x.a.length ≤ 60 ∧ x.v.length ≤ 60) → (L.flatMap encFe).length ≤ L.length * 123 := by
    intro L
    induction L with
    | nil => intro _; simp
    | cons x L ih =>
      intro hh
      have := ih (fun y hy => hh y (by simp [hy]))
      have hx := hh x (by simp)
      rw [List.flatMap_cons, List.length_append, encFe_lenX (by omega) (by omega), List.length_cons]
      omega
  have := h2 X h
  unfold encL; rw [List.length_append]; omega
end Go.Proofs.YtcpmjogeafhpnaaDoor
/- Fields put in their order, each once: where one stands, what comes of it. -/
set_option linter.all false
set_option maxRecDepth 100000
namespace Go.Proofs.YtcpmjogeafhpnaaDoor
open Go.RowKit Go.Sep
theorem fe_ext {x y : Fe} (h1 : x.k = y.k) (h2 : x.a = y.a) (h3 : x.v = y.v) : x = y := by cases x; cases y; simp_all
instance decFe : DecidableEq Fe := fun x y => if h : x.k = y.k ∧ x.a = y.a ∧ x.v = y.v then isTrue (fe_ext h.1 h.2.1 h.2.2) else isFalse (fun e => h (by subst e; exact ⟨rfl, rfl, rfl⟩))
def ordFe (x y : Fe) : Int := Tx.ordF x.k x.a x.v y.k y.a y.v
theorem cmI_zero {a b : Int} : Tx.cmI a b = 0 ↔ a = b := by
  unfold Tx.cmI; split
  · constructor <;> intro h <;> omega
  · split
    · constructor <;> intro h <;> omega
    · constructor <;> intro h <;> omega
theorem cmS_zero {a b : List UInt8} : Tx.cmS a b = 0 ↔ a = b := by
  unfold Tx.cmS; split
  · rename_i h
    constructor
    · intro q; omega
    · intro q; subst q; rw [Tx.bL_irr] at h; cases h
  · split
    · rename_i h; simp [h]
    · rename_i h; simp [h]
theorem ordFe_zero {x y : Fe} : ordFe x y = 0 ↔ x = y := by
  unfold ordFe Tx.ordF
  constructor
  · intro h
    split at h
    · rename_i q; exact absurd h q
    · rename_i q
      split at h
      · rename_i q2; exact absurd h q2
      · rename_i q2
        exact fe_ext (cmI_zero.1 (Decidable.not_not.1 q)) (cmS_zero.1 (Decidable.not_not.1 q2)) (cmS_zero.1 h)
  · intro h; subst h
    rw [if_neg (by rw [cmI_zero.2 rfl]; decide), if_neg (by rw [cmS_zero.2 rfl]; decide), cmS_zero.2 rfl]
theorem les_irrFe {x : Fe} : lesFe x x = false := Tx.les_irr
theorem les_totFe (x y : Fe) : lesFe x y = true ∨ x = y ∨ lesFe y x = true := by
  unfold lesFe Tx.lesF
  by_cases h1 : x.k = y.k
  · by_cases h2 : x.a = y.a
    · rcases Tx.bL_tot x.v y.v with h | h | h
      · left; simp [h1, h2, h]
      · right; left; exact fe_ext h1 h2 h
      · right; right; simp [h1, h2, h]
    · have h2' : ¬ y.a = x.a := fun q => h2 q.symm
      rcases Tx.bL_tot x.a y.a with h | h | h
      · left; simp [h1, h2, h]
      · exact absurd h h2
      · right; right; simp [h1, h2', h]
  · have h1' : ¬ y.k = x.k := fun q => h1 q.symm
    have : x.k < y.k ∨ y.k < x.k := by omega
    rcases this with h | h
    · left; simp [h1, h]
    · right; right; simp [h1', h]
theorem les_asym {x y : Fe} (h : lesFe x y = true) : lesFe y x = false := by
  cases q : lesFe y x with
  | false => rfl
  | true => have := lesFe_trans h q; rw [les_irrFe] at this; cases this
/-- how many stand ahead of it -/
def rk (M : List Fe) (x : Fe) : Nat := (M.takeWhile (fun y => lesFe y x)).length
theorem rk_eq {x : Fe} : ∀ {M : List Fe} {p : Nat}, p ≤ M.length → (∀ j, j < p → lesFe (M.getD j Fe.z) x = true) → (p < M.length → lesFe (M.getD p Fe.z) x = false) → rk M x = p
  | [], p, hp, _, _ => by simp at hp; subst hp; rfl
  | y :: M, 0, _, _, h2 => by
    have := h2 (by simp)
    simp only [List.getD_cons_zero] at this
    simp [rk, List.takeWhile_cons, this]
  | y :: M, p + 1, hp, h1, h2 => by
    have h0 := h1 0 (by omega)
    simp only [List.getD_cons_zero] at h0
    have ih := rk_eq (x := x) (M := M) (p := p) (by simpa using hp) (fun j hj => by have := h1 (j + 1) (by omega); simpa using this) (fun h => by have := h2 (by simpa using h); simpa using this)
    unfold rk at ih ⊢
    simp [List.takeWhile_cons, h0, ih]
theorem rk_le {x : Fe} : ∀ M : List Fe, rk M x ≤ M.length
  | [] => Nat.le_refl _
  | y :: M => by
    have := rk_le (x := x) M
    unfold rk at this ⊢
    rw [List.takeWhile_cons]
    split
    · simpa using this
    · simp
theorem rk_les {x : Fe} : ∀ {M : List Fe} {j : Nat}, j < rk M x → lesFe (M.getD j Fe.z) x = true
  | [], j, h => by simp [rk] at h
  | y :: M, j, h => by
    unfold rk at h
    rw [List.takeWhile_cons] at h
    split at h
    · rename_i q
      match j with
      | 0 => simpa using q
      | j + 1 => simpa using rk_les (x := x) (M := M) (j := j) (by simpa [rk] using h)
    · simp at h
theorem rk_not {x : Fe} : ∀ {M : List Fe}, rk M x < M.length → lesFe (M.getD (rk M x) Fe.z) x = false
  | [], h => by simp at h
  | y :: M, h => by
    unfold rk at h ⊢
    rw [List.takeWhile_cons] at h ⊢
    split
    · rename_i q
      rw [if_pos q] at h
      simpa [rk] using rk_not (x := x) (M := M) (by simpa [rk] using h)
    · rename_i q; simpa using q
theorem mem_rk {M : List Fe} {x : Fe} (ha : asc M) : x ∈ M ↔ rk M x < M.length ∧ M.getD (rk M x) Fe.z = x := by
  constructor
  · intro h
    obtain ⟨i, hi, he⟩ := List.getElem_of_mem h
    have hx : M.getD i Fe.z = x := by simp [hi, he]
    have h1 : rk M x = i := rk_eq (by omega) (fun j hj => by rw [← hx]; exact asc_lt ha hj hi) (fun _ => by rw [hx]; exact les_irrFe)
    rw [h1]; exact ⟨hi, hx⟩
  · rintro ⟨h1, h2⟩
    rw [← h2]; simp [h1]
/-- put in its place, once -/
def ins (M : List Fe) (x : Fe) : List Fe := if x ∈ M then M else M.take (rk M x) ++ x :: M.drop (rk M x)
theorem ins_len {M : List Fe} {x : Fe} : (ins M x).length = if x ∈ M then M.length else M.length + 1 := by
  unfold ins; split
  · rfl
  · have := rk_le (x := x) M
    simp only [List.length_append, List.length_cons, List.length_take, List.length_drop]; omega
theorem ins_at {M : List Fe} {x : Fe} (hx : x ∉ M) (i : Nat) : (ins M x).getD i Fe.z = if i < rk M x then M.getD i Fe.z else if i = rk M x then x else M.getD (i - 1) Fe.z := by
  have hr := rk_le (x := x) M
  have hl : (M.take (rk M x)).length = rk M x := by rw [List.length_take]; omega
  unfold ins
  rw [if_neg hx, List.getD_eq_getElem?_getD]
  by_cases h1 : i < rk M x
  · rw [if_pos h1, List.getElem?_append_left (by omega), List.getElem?_take, if_pos h1, List.getD_eq_getElem?_getD]
  · rw [if_neg h1, List.getElem?_append_right (by omega), hl]
    by_cases h2 : i = rk M x
    · rw [if_pos h2, h2, Nat.sub_self]; rfl
    · rw [if_neg h2, show i - rk M x = (i - rk M x - 1) + 1 by omega, List.getElem?_cons_succ, List.getElem?_drop, show rk M x + (i - rk M x - 1) = i - 1 by omega, List.getD_eq_getElem?_getD]
theorem asc_nil : asc [] := fun i h => by simp at h
theorem asc_ins {M : List Fe} {x : Fe} (ha : asc M) : asc (ins M x) := by
  by_cases hx : x ∈ M
  · unfold ins; rw [if_pos hx]; exact ha
  · intro i hi
    rw [ins_len, if_neg hx] at hi
    have hr := rk_le (x := x) M
    rw [ins_at hx, ins_at hx]
    by_cases h1 : i + 1 < rk M x
    · rw [if_pos (by omega), if_pos h1]; exact ha i (by omega)
    · by_cases h2 : i + 1 = rk M x
      · rw [if_pos (by omega), if_neg h1, if_pos h2]; exact rk_les (by omega)
      · by_cases h3 : i = rk M x
        · rw [if_neg (by omega), if_pos h3, if_neg (by omega), if_neg (by omega), h3, Nat.add_sub_cancel]
          have h4 := rk_not (M := M) (x := x) (by omega)
          rcases les_totFe x (M.getD (rk M x) Fe.z) with h | h | h
          · exact h
          · exact absurd ((mem_rk ha).2 ⟨by omega, h.symm⟩) hx
          · rw [h4] at h; cases h
        · rw [if_neg (by omega), if_neg h3, if_neg (by omega), if_neg (by omega), Nat.add_sub_cancel]
          have := ha (i - 1) (by omega)
          rwa [show i - 1 + 1 = i by omega] at this
/-- all of them -/
def puts (L : List Fe) : List Fe := L.foldl ins []
theorem puts_nil : puts [] = [] := rfl
theorem puts_take {L : List Fe} {i : Nat} (h : i < L.length) : puts (L.take (i + 1)) = ins (puts (L.take i)) (L.getD i Fe.z) := by
  unfold puts
  rw [List.take_succ_eq_append_getElem h, List.foldl_append]
  simp [h]
theorem asc_foldl : ∀ (L M : List Fe), asc M → asc (L.foldl ins M)
  | [], _, h => h
  | x :: L, M, h => asc_foldl L (ins M x) (asc_ins h)
theorem asc_puts (L : List Fe) : asc (puts L) := asc_foldl L [] asc_nil
theorem le_foldl : ∀ (L M : List Fe), M.length ≤ (L.foldl ins M).length
  | [], _ => Nat.le_refl _
  | x :: L, M => by
    have h1 := le_foldl L (ins M x)
    have h2 := ins_len (M := M) (x := x)
    simp only [List.foldl_cons]
    split at h2 <;> omega
theorem puts_le {L : List Fe} (i : Nat) : (puts (L.take i)).length ≤ (puts L).length := by
  conv => rhs; rw [← List.take_append_drop i L]
  unfold puts
  rw [List.foldl_append]
  exact le_foldl _ _
theorem puts_len : ∀ (L : List Fe), (puts L).length ≤ L.length := by
  have : ∀ (L M : List Fe), (L.foldl ins M).length ≤ M.length + L.length := by
    intro L
    induction L with
    | nil => intro M; simp
    | cons x L ih =>
      intro M
      have h1 := ih (ins M x)
      have h2 := ins_len (M := M) (x := x)
      simp only [List.foldl_cons, List.length_cons]
      split at h2 <;> omega
  intro L; have h := this L []; simp only [List.length_nil, Nat.zero_add] at h; exact h
theorem ins_mem {M : List Fe} {x : Fe} (h : x ∈ M) : ins M x = M := if_pos h
theorem ins_not {M : List Fe} {x : Fe} (h : x ∉ M) : ins M x = M.take (rk M x) ++ x :: M.drop (rk M x) := if_neg h
theorem mem_ins {M : List Fe} {x y : Fe} : y ∈ ins M x ↔ y ∈ M ∨ y = x := by
  unfold ins; split
  · rename_i h
    constructor
    · exact .inl
    · rintro (h2 | rfl)
      · exact h2
      · exact h
  · rw [List.mem_append, List.mem_cons]
    have : y ∈ M ↔ y ∈ M.take (rk M x) ∨ y ∈ M.drop (rk M x) := by
      conv => lhs; rw [← List.take_append_drop (rk M x) M]
      exact List.mem_append
    rw [this]
    constructor
    · rintro (h | h | h)
      · exact .inl (.inl h)
      · exact .inr h
      · exact .inl (.inr h)
    · rintro ((h | h) | h)
      · exact .inl h
      · exact .inr (.inr h)
      · exact .inr (.inl h)
theorem mem_puts {L : List Fe} {y : Fe} : y ∈ puts L ↔ y ∈ L := by
  have : ∀ (L M : List Fe), y ∈ L.foldl ins M ↔ y ∈ M ∨ y ∈ L := by
    intro L
    induction L with
    | nil => intro M; simp
    | cons x L ih =>
      intro M
      simp only [List.foldl_cons, ih, mem_ins, List.mem_cons]
      constructor
      · rintro ((h | h) | h)
        · exact .inl h
        · exact .inr (.inl h)
        · exact .inr (.inr h)
      · rintro (h | h | h)
        · exact .inl (.inl h)
        · exact .inl (.inr h)
        · exact .inr h
  have h := this L []
  simp only [List.not_mem_nil, false_or] at h; exact h
end Go.Proofs.YtcpmjogeafhpnaaDoor
/- A binary search among fields in their order. -/
set_option linter.all false
set_option maxRecDepth 100000
namespace Go.Proofs.YtcpmjogeafhpnaaDoor
open Go.RowKit Go.Sep
attribute [local irreducible] Go.wpList Go.Code.wp

theorem les_below {M : List Fe} {x : Fe} {i : Nat} (ha : asc M) (hi : i < M.length) (h : lesFe (M.getD i Fe.z) x = true) : ∀ j, j < i + 1 → lesFe (M.getD j Fe.z) x = true := fun j hj => by
  by_cases e : j = i
  · subst e; exact h
  · exact lesFe_trans (asc_lt ha (by omega) hi) h
theorem les_above {M : List Fe} {x : Fe} {i : Nat} (ha : asc M) (h : lesFe (M.getD i Fe.z) x = false) : ∀ j, i ≤ j → j < M.length → lesFe (M.getD j Fe.z) x = false := fun j hj hl => by
  by_cases e : i = j
  · subst e; exact h
  · cases q : lesFe (M.getD j Fe.z) x with
    | false => rfl
    | true => rw [lesFe_trans (asc_lt ha (by omega) hl) q] at h; cases h
theorem les_of {y : Fe} {k : Int} {A B : List UInt8} {b : Bool} (h : decide (Tx.ordF y.k y.a y.v k A B < 0) = b) : lesFe y ⟨k, A, B⟩ = b := by
  unfold lesFe; rw [← Tx.ord_les]; exact h
theorem srch_rk {M : List Fe} {x : Fe} {p q : Nat} (h1 : ∀ j, j < p → lesFe (M.getD j Fe.z) x = true) (h2 : ∀ j, q ≤ j → j < M.length → lesFe (M.getD j Fe.z) x = false) (hpq : p ≤ q) (hn : ¬ p < q) (hq : q ≤ M.length) : rk M x = p :=
  rk_eq (by omega) h1 (fun h => h2 p (by omega) h)
theorem srch_some {M : List Fe} {k : Int} {A B : List UInt8} {p : Nat} (ha : asc M) (hr : rk M ⟨k, A, B⟩ = p) (hp : p < M.length) : (.tuple #[.int .i64 ((p : Nat) : Int), .bool (decide (Tx.ordF (M.getD p Fe.z).k (M.getD p Fe.z).a (M.getD p Fe.z).v k A B = 0))] : Value) = .tuple #[.int .i64 ((rk M ⟨k, A, B⟩ : Nat) : Int), .bool (decide ((⟨k, A, B⟩ : Fe) ∈ M))] := by
  have e : decide (Tx.ordF (M.getD p Fe.z).k (M.getD p Fe.z).a (M.getD p Fe.z).v k A B = 0) = decide ((⟨k, A, B⟩ : Fe) ∈ M) := decide_eq_decide.2 (by
    rw [mem_rk ha, hr]
    exact (ordFe_zero (x := M.getD p Fe.z) (y := ⟨k, A, B⟩)).trans ⟨fun h => ⟨hp, h⟩, fun h => h.2⟩)
  rw [e, hr]
theorem srch_none {M : List Fe} {x : Fe} {p : Nat} (ha : asc M) (hr : rk M x = p) (hp : ¬ p < M.length) : (.tuple #[.int .i64 ((p : Nat) : Int), .bool false] : Value) = .tuple #[.int .i64 ((rk M x : Nat) : Int), .bool (decide (x ∈ M))] := by
  rw [decide_eq_false (by rw [mem_rk ha, hr]; exact fun h => hp h.1), hr]

set_option maxHeartbeats 4000000 in
theorem search_c {I : IM} {M : List Fe} {a0 : Option Addr} {c0 : Nat} (h0 : FSl I M (.slice a0 M.length c0)) (hl : M.length ≤ 1000) (hasc : asc M) {k : Int} {A B : List UInt8} : Fun Tryd.prog 97 #[.slice a0 M.length c0, .agg #[.int .i64 k, .string ⟨(A).toArray⟩, .string ⟨(B).toArray⟩], .func (.func 72) #[] #[]] I (fun v J => v = .tuple #[.int .i64 ((rk M ⟨k, A, B⟩ : Nat) : Int), .bool (decide ((⟨k, A, B⟩ : Fe) ∈ M))]) := by
 refine enter_rule 49 [(0, .slice a0 M.length c0), (1, .agg #[.int .i64 k, .string ⟨(A).toArray⟩, .string ⟨(B).toArray⟩]), (2, .func (.func 72) #[] #[])] Tryd.func97 rfl (by kernel_rfl) ?_
 intro w s
 refine seqR ?_
 refine oAD [] [] 3 [] 1 (fun φ1 => [(7, .bool false), (6, .int .i64 0), (4, pB (φ1 0))]) (fun φ1 => [(φ1 0, .cells #[.int .i64 k, .string ⟨(A).toArray⟩, .string ⟨(B).toArray⟩] 39)]) (fun φ1 => []) s (fun φ1 => by kernel_rfl) (by kernel_rfl) ?_
 intro φ1 w1 s
 refine seqR ?_
 refine oKD _ [] 3 [] 0 (fun φ2 => [(8, .int .i64 M.length), (13, .int .i64 M.length), (12, .slice a0 M.length c0)]) (fun φ2 => []) s (fun φ2 => by kernel_rfl) (by kernel_rfl) ?_
 intro φ2 w2 s
 refine seqR ?_
 refine oKD _ [] 3 [] 0 (fun φ3 => [(10, .int .i64 M.length), (9, .int .i64 0), (14, .int .i64 M.length)]) (fun φ3 => []) s (fun φ3 => by kernel_rfl) (by kernel_rfl) ?_
 intro φ3 w3 s
 refine wp_seq ?_
 refine wp_block ?_
 have hle4 := IM.Le.refl I
 refine loop_rule (fun (x : Nat × Nat) => [(0, .slice a0 M.length c0), (2, .func (.func 72) #[] #[]), (4, pB (φ1 0)), (6, .int .i64 0), (7, .bool false), (8, .int .i64 M.length), (9, .int .i64 x.1), (10, .int .i64 x.2)]) (fun (x : Nat × Nat) => [(φ1 0, .cells #[.int .i64 k, .string ⟨(A).toArray⟩, .string ⟨(B).toArray⟩] 39)]) (fun m (x : Nat × Nat) J => IM.Le I J ∧ x.2 ≤ x.1 + m ∧ x.1 ≤ x.2 ∧ x.2 ≤ M.length ∧ (∀ j, j < x.1 → lesFe (M.getD j Fe.z) ⟨k, A, B⟩ = true) ∧ (∀ j, x.2 ≤ j → j < M.length → lesFe (M.getD j Fe.z) ⟨k, A, B⟩ = false)) (M.length) (0, M.length) s (by kernel_rfl) (List.Sublist.cons₂ _ List.Sublist.slnil) ⟨IM.Le.refl _, by omega, Nat.zero_le _, Nat.le_refl _, fun j h => by omega, fun j h1 h2 => by omega⟩ ?_
 rintro m5 ⟨p5, q5⟩ I5 w5 ev5 s ⟨le5, hi5_0, hi5_1, hi5_2, hi5_3, hi5_4⟩
 try dsimp only at s hi5_0 hi5_1 hi5_2 hi5_3 hi5_4 ⊢
 replace h0 := FSl.mono le5 h0
 replace hle4 := leMono le5 hle4
 refine wp_seq ?_
 refine seqR ?_
 refine oK [(φ1 0, .cells #[.int .i64 k, .string ⟨(A).toArray⟩, .string ⟨(B).toArray⟩] 39)] [] 3 [] 0 (fun φ6 => [(17, .bool (decide (((p5 : Nat) : Int) < ((q5 : Nat) : Int)))), (16, .int .i64 q5), (15, .int .i64 p5)]) (fun φ6 => []) s (fun φ6 => by kernel_rfl) ?_
 intro φ6 w6 s
 rw [nat_lss (a := p5) (b := q5)]
 refine ops_done (by kernel_rfl) ?_
 rcases Bool.eq_false_or_eq_true (decide (p5 < q5)) with hc7 | hc7
 ·
  rw [hc7]
  refine cond_true_rule (b := true) (by kernel_rfl) rfl ?_
  refine wp_skip ?_
  refine wp_block ?_
  refine seqR ?_
  refine oK _ [] 4 [] 0 (fun φ8 => [(21, .int .u64 (IntKind.wrap .u64 (IntKind.wrap .i64 (((p5 : Nat) : Int) + ((q5 : Nat) : Int))))), (20, .int .i64 (IntKind.wrap .i64 (((p5 : Nat) : Int) + ((q5 : Nat) : Int)))), (19, .int .i64 q5), (18, .int .i64 p5)]) (fun φ8 => []) s (fun φ8 => by kernel_rfl) ?_
  intro φ8 w8 s
  rw [nat_addI (a := p5) (b := q5) (by have e7 := hi5_1; have e8 := hi5_2; have hq0 := dT9 hc7; omega)]
  rw [nat_wrapU (a := (p5 + q5)) (by have e7 := hi5_1; have e8 := hi5_2; have hq0 := dT9 hc7; omega)]
  refine sem_rule (binOp .shr 142 (.int .u64 ((p5 + q5 : Nat) : Int)) (.int .u64 ((1 : Nat) : Int))) (some 22) (.int .u64 (((p5 + q5) / 2 ^ 1 : Nat) : Int)) (by kernel_rfl) (run_shrU (by show _ < 18446744073709551616; have e7 := hi5_1; have e8 := hi5_2; have hq0 := dT9 hc7; omega)) ?_
  refine oK _ [] 2 [] 0 (fun φ9 => [(11, .int .i64 (IntKind.wrap .i64 (((p5 + q5) / 2 ^ 1 : Nat) : Int))), (23, .int .i64 (IntKind.wrap .i64 (((p5 + q5) / 2 ^ 1 : Nat) : Int)))]) (fun φ9 => []) s (fun φ9 => by kernel_rfl) ?_
  intro φ9 w9 s
  rw [nat_wrapI (a := ((p5 + q5) / 2 ^ 1)) (by have e7 := hi5_1; have e8 := hi5_2; have hq0 := dT9 hc7; omega)]
  refine ops_done (by kernel_rfl) ?_
  refine wp_seq ?_
  refine draw_rule (C := []) ⟨(fun φ10 xs10 => [.look 0 [] [], .look 0 [] [], .look 0 [] [], .ran (Instr.indexAt 22 (.slice a0 M.length c0) (.int .i64 (((p5 + q5) / 2 ^ 1 : Nat) : Int))), .ran (Instr.loadAt 39 (.pointer (pAt a0 (((p5 + q5) / 2 ^ 1) * 3)))), .look 0 [.o 0, .o 0, .o 0] [φ1 0, φ1 0, φ1 0], .call 72 #[.agg #[.int .i64 ((List.getD M ((p5 + q5) / 2 ^ 1) Fe.z).k), .string ⟨((List.getD M ((p5 + q5) / 2 ^ 1) Fe.z).a).toArray⟩, .string ⟨((List.getD M ((p5 + q5) / 2 ^ 1) Fe.z).v).toArray⟩], .agg #[.int .i64 k, .string ⟨(A).toArray⟩, .string ⟨(B).toArray⟩]], .look 0 [] []]), (fun φ10 xs10 => [.func (.func 72) #[] #[], .slice a0 M.length c0, .int .i64 (((p5 + q5) / 2 ^ 1 : Nat) : Int), .pointer (pAt a0 (((p5 + q5) / 2 ^ 1) * 3)), .agg #[.int .i64 ((List.getD M ((p5 + q5) / 2 ^ 1) Fe.z).k), .string ⟨((List.getD M ((p5 + q5) / 2 ^ 1) Fe.z).a).toArray⟩, .string ⟨((List.getD M ((p5 + q5) / 2 ^ 1) Fe.z).v).toArray⟩], .agg #[.int .i64 k, .string ⟨(A).toArray⟩, .string ⟨(B).toArray⟩], .int .i64 (Tx.ordF ((List.getD M ((p5 + q5) / 2 ^ 1) Fe.z).k) ((List.getD M ((p5 + q5) / 2 ^ 1) Fe.z).a) ((List.getD M ((p5 + q5) / 2 ^ 1) Fe.z).v) k A B), .bool (decide ((Tx.ordF ((List.getD M ((p5 + q5) / 2 ^ 1) Fe.z).k) ((List.getD M ((p5 + q5) / 2 ^ 1) Fe.z).a) ((List.getD M ((p5 + q5) / 2 ^ 1) Fe.z).v) k A B) < ((0 : Nat) : Int)))]), (fun φ10 xs10 => [[(φ1 0, .cells #[.int .i64 k, .string ⟨(A).toArray⟩, .string ⟨(B).toArray⟩] 39)]]), (fun φ10 xs10 => [[default, default, default, default, default, default, default, default]]), [], [1, 1, 1, 6, 6, 1, 3, 1]⟩ (fun j => ([MP.any] : List MP).getD j MP.any) [6] [] [3, 4] (fun φ10 xs10 => []) (fun φ10 xs10 => [(24, .func (.func 72) #[] #[]), (25, .slice a0 M.length c0), (26, .int .i64 (((p5 + q5) / 2 ^ 1 : Nat) : Int)), (27, .pointer (pAt a0 (((p5 + q5) / 2 ^ 1) * 3))), (28, .agg #[.int .i64 ((List.getD M ((p5 + q5) / 2 ^ 1) Fe.z).k), .string ⟨((List.getD M ((p5 + q5) / 2 ^ 1) Fe.z).a).toArray⟩, .string ⟨((List.getD M ((p5 + q5) / 2 ^ 1) Fe.z).v).toArray⟩]), (29, .agg #[.int .i64 k, .string ⟨(A).toArray⟩, .string ⟨(B).toArray⟩]), (30, .int .i64 (Tx.ordF ((List.getD M ((p5 + q5) / 2 ^ 1) Fe.z).k) ((List.getD M ((p5 + q5) / 2 ^ 1) Fe.z).a) ((List.getD M ((p5 + q5) / 2 ^ 1) Fe.z).v) k A B)), (31, .bool (decide ((Tx.ordF ((List.getD M ((p5 + q5) / 2 ^ 1) Fe.z).k) ((List.getD M ((p5 + q5) / 2 ^ 1) Fe.z).a) ((List.getD M ((p5 + q5) / 2 ^ 1) Fe.z).v) k A B) < ((0 : Nat) : Int))))]) (fun φ10 xs10 => [(φ1 0, .cells #[.int .i64 k, .string ⟨(A).toArray⟩, .string ⟨(B).toArray⟩] 39)]) s trivial (by kernel_rfl) (by kernel_rfl) (fun _ _ => by kernel_rfl) (fun _ _ => by kernel_rfl) ⟨fun _ _ => by kernel_rfl, fun _ _ => by kernel_rfl, fun _ _ => by kernel_rfl, fun _ _ => by kernel_rfl⟩ (fun _ _ _ => by kernel_rfl) (fun _ _ => by kernel_rfl) (fun _ _ => by kernel_rfl) (fun _ _ => by kernel_rfl) (fun _ _ => by kernel_rfl) (fun _ _ => by kernel_rfl) trivial ⟨kcast (A := ∀ (φ10 : Nat → Nat) (xs10 : Xs) (J : IM) (w : World), I5.Le J → J.Sub w → ((Instr.indexAt 22 (.slice a0 M.length c0) (.int .i64 (((p5 + q5) / 2 ^ 1 : Nat) : Int))) : Sem Value).run Tryd.prog w = .ok (.pointer (pAt a0 (((p5 + q5) / 2 ^ 1) * 3))) w) (by kernel_rfl) (fun φ10 xs10 J w hJ hS => fsl_idx22 (FSl.mono hJ h0) (by have e7 := hi5_1; have e8 := hi5_2; have hq0 := dT9 hc7; omega)), ⟨kcast (A := ∀ (φ10 : Nat → Nat) (xs10 : Xs) (J : IM) (w : World), I5.Le J → J.Sub w → ((Instr.loadAt 39 (.pointer (pAt a0 (((p5 + q5) / 2 ^ 1) * 3)))) : Sem Value).run Tryd.prog w = .ok (.agg #[.int .i64 ((List.getD M ((p5 + q5) / 2 ^ 1) Fe.z).k), .string ⟨((List.getD M ((p5 + q5) / 2 ^ 1) Fe.z).a).toArray⟩, .string ⟨((List.getD M ((p5 + q5) / 2 ^ 1) Fe.z).v).toArray⟩]) w) (by kernel_rfl) (fun φ10 xs10 J w hJ hS => fsl_ld39 hS (FSl.mono hJ h0) (by have e7 := hi5_1; have e8 := hi5_2; have hq0 := dT9 hc7; omega)), trivial⟩⟩ (by kernel_rfl) ⟨?c10_6, trivial⟩ ?k10
  case c10_6 =>
   refine kcast (A := ∀ (φ10 : Nat → Nat) (xs10 : Xs) (J6_10 : IM), I5.Le J6_10 → Fun Tryd.prog 72 #[.agg #[.int .i64 ((List.getD M ((p5 + q5) / 2 ^ 1) Fe.z).k), .string ⟨((List.getD M ((p5 + q5) / 2 ^ 1) Fe.z).a).toArray⟩, .string ⟨((List.getD M ((p5 + q5) / 2 ^ 1) Fe.z).v).toArray⟩], .agg #[.int .i64 k, .string ⟨(A).toArray⟩, .string ⟨(B).toArray⟩]] J6_10 (fun v J' => ∃ x : UX, v = .int .i64 (Tx.ordF ((List.getD M ((p5 + q5) / 2 ^ 1) Fe.z).k) ((List.getD M ((p5 + q5) / 2 ^ 1) Fe.z).a) ((List.getD M ((p5 + q5) / 2 ^ 1) Fe.z).v) k A B) ∧ (True))) (by kernel_rfl) ?_
   intro φ10 xs10 J6_10 leJ
   exact Fun.mono (Tx.order_c (k := (List.getD M ((p5 + q5) / 2 ^ 1) Fe.z).k) (A := (List.getD M ((p5 + q5) / 2 ^ 1) Fe.z).a) (B := (List.getD M ((p5 + q5) / 2 ^ 1) Fe.z).v) (k' := k) (A' := A) (B' := B)) (fun v J' _ h => ⟨UX.d, h, trivial⟩)
  case k10 =>
   rintro φ10 xs10 I10 w10 le10 s _
   replace h0 := FSl.mono le10 h0
   replace hle4 := leMono le10 hle4
   rcases Bool.eq_false_or_eq_true (decide ((Tx.ordF ((List.getD M ((p5 + q5) / 2 ^ 1) Fe.z).k) ((List.getD M ((p5 + q5) / 2 ^ 1) Fe.z).a) ((List.getD M ((p5 + q5) / 2 ^ 1) Fe.z).v) k A B) < ((0 : Nat) : Int))) with hc11 | hc11
   ·
    rw [hc11]
    refine cond_true_rule (b := true) (by kernel_rfl) rfl ?_
    refine region_rule ?_
    refine oK [(φ1 0, .cells #[.int .i64 k, .string ⟨(A).toArray⟩, .string ⟨(B).toArray⟩] 39)] [] 3 [] 0 (fun φ12 => [(9, .int .i64 (IntKind.wrap .i64 ((((p5 + q5) / 2 ^ 1 : Nat) : Int) + ((1 : Nat) : Int)))), (33, .int .i64 (IntKind.wrap .i64 ((((p5 + q5) / 2 ^ 1 : Nat) : Int) + ((1 : Nat) : Int)))), (32, .int .i64 (((p5 + q5) / 2 ^ 1 : Nat) : Int))]) (fun φ12 => []) s (fun φ12 => by kernel_rfl) ?_
    intro φ12 w12 s
    rw [nat_addI (a := ((p5 + q5) / 2 ^ 1)) (b := 1) (by have e7 := hi5_1; have e8 := hi5_2; have hq0 := dT9 hc7; have hq1 := dT9 hc11; omega)]
    refine ops_done (by kernel_rfl) ?_
    exact ⟨⟨m5 - 1, (((p5 + q5) / 2 ^ 1) + 1, q5), _, _, _, by have hq0 := dT9 hc7; have hq1 := dT9 hc11; have := hi5_0; omega, rfl, s, (List.Sublist.cons₂ _ List.Sublist.slnil), by kernel_rfl, hle4, by have hq0 := dT9 hc7; have hq1 := dT9 hc11; have := hi5_0; have := hi5_1; show q5 ≤ ((p5 + q5) / 2 ^ 1) + 1 + (m5 - 1); omega, by have hq0 := dT9 hc7; have hq1 := dT9 hc11; have := hi5_1; show ((p5 + q5) / 2 ^ 1) + 1 ≤ q5; omega, hi5_2, les_below hasc (by have hq0 := dT9 hc7; have hq1 := dT9 hc11; have := hi5_1; have := hi5_2; omega) (les_of hc11), hi5_4⟩⟩
   ·
    rw [hc11]
    refine cond_false_rule (b := false) (by kernel_rfl) rfl ?_
    refine region_rule ?_
    refine oKD [(φ1 0, .cells #[.int .i64 k, .string ⟨(A).toArray⟩, .string ⟨(B).toArray⟩] 39)] [] 2 [] 0 (fun φ13 => [(10, .int .i64 (((p5 + q5) / 2 ^ 1 : Nat) : Int)), (34, .int .i64 (((p5 + q5) / 2 ^ 1 : Nat) : Int))]) (fun φ13 => []) s (fun φ13 => by kernel_rfl) (by kernel_rfl) ?_
    intro φ13 w13 s
    exact ⟨⟨m5 - 1, (p5, (p5 + q5) / 2 ^ 1), _, _, _, by have hq0 := dT9 hc7; have hq1 := dF9 hc11; have := hi5_0; omega, rfl, s, (List.Sublist.cons₂ _ List.Sublist.slnil), by kernel_rfl, hle4, by have hq0 := dT9 hc7; have hq1 := dF9 hc11; have := hi5_0; have := hi5_1; show (p5 + q5) / 2 ^ 1 ≤ p5 + (m5 - 1); omega, by have hq0 := dT9 hc7; have hq1 := dF9 hc11; have := hi5_1; show p5 ≤ (p5 + q5) / 2 ^ 1; omega, by have hq0 := dT9 hc7; have hq1 := dF9 hc11; have := hi5_1; have := hi5_2; show (p5 + q5) / 2 ^ 1 ≤ M.length; omega, hi5_3, les_above hasc (les_of hc11)⟩⟩
 ·
  rw [hc7]
  refine cond_false_rule (b := false) (by kernel_rfl) rfl ?_
  refine wp_exit ?_
  refine wp_seq ?_
  rcases Bool.eq_false_or_eq_true (decide (p5 < M.length)) with hc14 | hc14
  ·
   refine draw_rule (C := []) ⟨(fun φ15 xs15 => [.look 0 [] [], .look 0 [] [], .look 0 [] [], .sub 0 [] [] (.bool (decide (((p5 : Nat) : Int) < ((M.length : Nat) : Int)))), .look 0 [] [], .look 0 [] [], .look 0 [] [], .look 0 [] [], .ran (Instr.indexAt 22 (.slice a0 M.length c0) (.int .i64 p5)), .ran (Instr.loadAt 39 (.pointer (pAt a0 (p5 * 3)))), .look 0 [.o 0, .o 0, .o 0] [φ1 0, φ1 0, φ1 0], .call 72 #[.agg #[.int .i64 ((List.getD M p5 Fe.z).k), .string ⟨((List.getD M p5 Fe.z).a).toArray⟩, .string ⟨((List.getD M p5 Fe.z).v).toArray⟩], .agg #[.int .i64 k, .string ⟨(A).toArray⟩, .string ⟨(B).toArray⟩]], .look 0 [] [], .look 0 [] [], .look 0 [] [], .look 0 [] []]), (fun φ15 xs15 => [.int .i64 p5, .int .i64 p5, .int .i64 M.length, .bool true, .bool true, .func (.func 72) #[] #[], .slice a0 M.length c0, .int .i64 p5, .pointer (pAt a0 (p5 * 3)), .agg #[.int .i64 ((List.getD M p5 Fe.z).k), .string ⟨((List.getD M p5 Fe.z).a).toArray⟩, .string ⟨((List.getD M p5 Fe.z).v).toArray⟩], .agg #[.int .i64 k, .string ⟨(A).toArray⟩, .string ⟨(B).toArray⟩], .int .i64 (Tx.ordF ((List.getD M p5 Fe.z).k) ((List.getD M p5 Fe.z).a) ((List.getD M p5 Fe.z).v) k A B), .bool ((Tx.ordF ((List.getD M p5 Fe.z).k) ((List.getD M p5 Fe.z).a) ((List.getD M p5 Fe.z).v) k A B) == ((0 : Nat) : Int)), .bool ((Tx.ordF ((List.getD M p5 Fe.z).k) ((List.getD M p5 Fe.z).a) ((List.getD M p5 Fe.z).v) k A B) == ((0 : Nat) : Int)), .int .i64 p5, .bool ((Tx.ordF ((List.getD M p5 Fe.z).k) ((List.getD M p5 Fe.z).a) ((List.getD M p5 Fe.z).v) k A B) == ((0 : Nat) : Int))]), (fun φ15 xs15 => [[(φ1 0, .cells #[.int .i64 k, .string ⟨(A).toArray⟩, .string ⟨(B).toArray⟩] 39)]]), (fun φ15 xs15 => [[default, default, default, default, default, default, default, default, default, default, default, default, default, default, default, default]]), [], [1, 1, 1, 5, 1, 1, 1, 1, 6, 6, 1, 3, 1, 1, 1, 1]⟩ (fun j => ([MP.any] : List MP).getD j MP.any) [11] [3] [8, 9] (fun φ15 xs15 => []) (fun φ15 xs15 => [(35, .int .i64 p5), (36, .int .i64 p5), (37, .int .i64 M.length), (38, .bool true), (39, .bool true), (40, .func (.func 72) #[] #[]), (41, .slice a0 M.length c0), (42, .int .i64 p5), (43, .pointer (pAt a0 (p5 * 3))), (44, .agg #[.int .i64 ((List.getD M p5 Fe.z).k), .string ⟨((List.getD M p5 Fe.z).a).toArray⟩, .string ⟨((List.getD M p5 Fe.z).v).toArray⟩]), (45, .agg #[.int .i64 k, .string ⟨(A).toArray⟩, .string ⟨(B).toArray⟩]), (46, .int .i64 (Tx.ordF ((List.getD M p5 Fe.z).k) ((List.getD M p5 Fe.z).a) ((List.getD M p5 Fe.z).v) k A B)), (47, .bool ((Tx.ordF ((List.getD M p5 Fe.z).k) ((List.getD M p5 Fe.z).a) ((List.getD M p5 Fe.z).v) k A B) == ((0 : Nat) : Int))), (48, .bool ((Tx.ordF ((List.getD M p5 Fe.z).k) ((List.getD M p5 Fe.z).a) ((List.getD M p5 Fe.z).v) k A B) == ((0 : Nat) : Int))), (6, .int .i64 p5), (7, .bool ((Tx.ordF ((List.getD M p5 Fe.z).k) ((List.getD M p5 Fe.z).a) ((List.getD M p5 Fe.z).v) k A B) == ((0 : Nat) : Int)))]) (fun φ15 xs15 => [(φ1 0, .cells #[.int .i64 k, .string ⟨(A).toArray⟩, .string ⟨(B).toArray⟩] 39)]) s trivial (by kernel_rfl) (by kernel_rfl) (fun _ _ => by kernel_rfl) (fun _ _ => by kernel_rfl) ⟨fun _ _ => by kernel_rfl, fun _ _ => by kernel_rfl, fun _ _ => by kernel_rfl, fun _ _ => by kernel_rfl⟩ (fun _ _ _ => by kernel_rfl) (fun _ _ => by kernel_rfl) (fun _ _ => by kernel_rfl) (fun _ _ => by kernel_rfl) (fun _ _ => by kernel_rfl) (fun _ _ => by kernel_rfl) ⟨kcast (A := ∀ (φ15 : Nat → Nat) (xs15 : Xs), (.bool (decide (((p5 : Nat) : Int) < ((M.length : Nat) : Int))) : Value) = .bool true) (by kernel_rfl) (fun φ15 xs15 => congrArg Value.bool ((nat_lss (a := p5) (b := M.length)).trans (hc14))), trivial⟩ ⟨kcast (A := ∀ (φ15 : Nat → Nat) (xs15 : Xs) (J : IM) (w : World), I5.Le J → J.Sub w → ((Instr.indexAt 22 (.slice a0 M.length c0) (.int .i64 p5)) : Sem Value).run Tryd.prog w = .ok (.pointer (pAt a0 (p5 * 3))) w) (by kernel_rfl) (fun φ15 xs15 J w hJ hS => fsl_idx22 (FSl.mono hJ h0) (by have e7 := hi5_1; have e8 := hi5_2; have hq0 := dF9 hc7; have hq1 := dT9 hc14; omega)), ⟨kcast (A := ∀ (φ15 : Nat → Nat) (xs15 : Xs) (J : IM) (w : World), I5.Le J → J.Sub w → ((Instr.loadAt 39 (.pointer (pAt a0 (p5 * 3)))) : Sem Value).run Tryd.prog w = .ok (.agg #[.int .i64 ((List.getD M p5 Fe.z).k), .string ⟨((List.getD M p5 Fe.z).a).toArray⟩, .string ⟨((List.getD M p5 Fe.z).v).toArray⟩]) w) (by kernel_rfl) (fun φ15 xs15 J w hJ hS => fsl_ld39 hS (FSl.mono hJ h0) (by have e7 := hi5_1; have e8 := hi5_2; have hq0 := dF9 hc7; have hq1 := dT9 hc14; omega)), trivial⟩⟩ (by kernel_rfl) ⟨?c15_11, trivial⟩ ?k15
   case c15_11 =>
    refine kcast (A := ∀ (φ15 : Nat → Nat) (xs15 : Xs) (J11_15 : IM), I5.Le J11_15 → Fun Tryd.prog 72 #[.agg #[.int .i64 ((List.getD M p5 Fe.z).k), .string ⟨((List.getD M p5 Fe.z).a).toArray⟩, .string ⟨((List.getD M p5 Fe.z).v).toArray⟩], .agg #[.int .i64 k, .string ⟨(A).toArray⟩, .string ⟨(B).toArray⟩]] J11_15 (fun v J' => ∃ x : UX, v = .int .i64 (Tx.ordF ((List.getD M p5 Fe.z).k) ((List.getD M p5 Fe.z).a) ((List.getD M p5 Fe.z).v) k A B) ∧ (True))) (by kernel_rfl) ?_
    intro φ15 xs15 J11_15 leJ
    exact Fun.mono (Tx.order_c (k := (List.getD M p5 Fe.z).k) (A := (List.getD M p5 Fe.z).a) (B := (List.getD M p5 Fe.z).v) (k' := k) (A' := A) (B' := B)) (fun v J' _ h => ⟨UX.d, h, trivial⟩)
   case k15 =>
    rintro φ15 xs15 I15 w15 le15 s _
    refine wp_ret ?_
    refine ret_rule (C := []) [(φ1 0, .cells #[.int .i64 k, .string ⟨(A).toArray⟩, .string ⟨(B).toArray⟩] 39)] [] (.tuple #[.int .i64 p5, .bool ((Tx.ordF ((List.getD M p5 Fe.z).k) ((List.getD M p5 Fe.z).a) ((List.getD M p5 Fe.z).v) k A B) == ((0 : Nat) : Int))]) [] [] s trivial (by kernel_rfl) ?_
    exact ⟨_, _, _, rfl, s, (srch_some hasc (srch_rk hi5_3 hi5_4 hi5_1 (by have hq0 := dF9 hc7; have hq1 := dT9 hc14; omega) hi5_2) (by have hq0 := dF9 hc7; have hq1 := dT9 hc14; omega))⟩
  ·
   refine draw_rule (C := []) ⟨(fun φ16 xs16 => [.look 0 [] [], .look 0 [] [], .look 0 [] [], .sub 0 [] [] (.bool (decide (((p5 : Nat) : Int) < ((M.length : Nat) : Int)))), .look 0 [] [], .skip, .skip, .skip, .skip, .skip, .skip, .skip, .skip, .look 0 [] [], .look 0 [] [], .look 0 [] []]), (fun φ16 xs16 => [.int .i64 p5, .int .i64 p5, .int .i64 M.length, .bool false, .bool false, undef, undef, undef, undef, undef, undef, undef, undef, .bool false, .int .i64 p5, .bool false]), (fun φ16 xs16 => [[(φ1 0, .cells #[.int .i64 k, .string ⟨(A).toArray⟩, .string ⟨(B).toArray⟩] 39)]]), (fun φ16 xs16 => [[default, default, default, default, default, default, default, default, default, default, default, default, default, default, default, default]]), [], [1, 1, 1, 5, 1, 0, 0, 0, 0, 0, 0, 0, 0, 1, 1, 1]⟩ (fun j => ([MP.any] : List MP).getD j MP.any) [] [3] [] (fun φ16 xs16 => []) (fun φ16 xs16 => [(35, .int .i64 p5), (36, .int .i64 p5), (37, .int .i64 M.length), (38, .bool false), (39, .bool false), (40, undef), (41, undef), (42, undef), (43, undef), (44, undef), (45, undef), (46, undef), (47, undef), (48, .bool false), (6, .int .i64 p5), (7, .bool false)]) (fun φ16 xs16 => [(φ1 0, .cells #[.int .i64 k, .string ⟨(A).toArray⟩, .string ⟨(B).toArray⟩] 39)]) s trivial (by kernel_rfl) (by kernel_rfl) (fun _ _ => by kernel_rfl) (fun _ _ => by kernel_rfl) ⟨fun _ _ => by kernel_rfl, fun _ _ => by kernel_rfl, fun _ _ => by kernel_rfl, fun _ _ => by kernel_rfl⟩ (fun _ _ _ => by kernel_rfl) (fun _ _ => by kernel_rfl) (fun _ _ => by kernel_rfl) (fun _ _ => by kernel_rfl) (fun _ _ => by kernel_rfl) (fun _ _ => by kernel_rfl) ⟨kcast (A := ∀ (φ16 : Nat → Nat) (xs16 : Xs), (.bool (decide (((p5 : Nat) : Int) < ((M.length : Nat) : Int))) : Value) = .bool false) (by kernel_rfl) (fun φ16 xs16 => congrArg Value.bool ((nat_lss (a := p5) (b := M.length)).trans (hc14))), trivial⟩ trivial (by kernel_rfl) trivial ?k16
   case k16 =>
    rintro φ16 xs16 I16 w16 le16 s 
    refine wp_ret ?_
    refine ret_rule (C := []) [(φ1 0, .cells #[.int .i64 k, .string ⟨(A).toArray⟩, .string ⟨(B).toArray⟩] 39)] [] (.tuple #[.int .i64 p5, .bool false]) [] [] s trivial (by kernel_rfl) ?_
    exact ⟨_, _, _, rfl, s, (srch_none hasc (srch_rk hi5_3 hi5_4 hi5_1 (by have hq0 := dF9 hc7; have hq1 := dF9 hc14; omega) hi5_2) (by have hq0 := dF9 hc7; have hq1 := dF9 hc14; have := hi5_2; omega))⟩

end Go.Proofs.YtcpmjogeafhpnaaDoor
/- A field is put in among others. -/
set_option linter.all false
set_option maxRecDepth 100000
namespace Go.Proofs.YtcpmjogeafhpnaaDoor
open Go.RowKit Go.Sep
attribute [local irreducible] Go.wpList Go.Code.wp

theorem run_addI {w : World} {a b : Nat} (h : a + b ≤ 9223372036854775807) : (binOp .add 3 (.int .i64 ((a : Nat) : Int)) (.int .i64 ((b : Nat) : Int))).run Tryd.prog w = .ok (.int .i64 ((a + b : Nat) : Int)) w := by
  have e : (binOp .add 3 (.int .i64 ((a : Nat) : Int)) (.int .i64 ((b : Nat) : Int))).run Tryd.prog w = .ok (.int .i64 (IntKind.i64.wrap ((a : Int) + (b : Int)))) w := by kernel_rfl
  rw [e, show IntKind.i64.wrap ((a : Int) + (b : Int)) = ((a + b : Nat) : Int) by rw [IntKind.wrap_i64]; omega]
theorem run_from22 {w : World} {g n cap lo : Nat} (h1 : lo ≤ n) (h2 : n ≤ cap) (h3 : lo < cap) : (Instr.sliceAt 22 (.slice (some ⟨g, 0, none⟩) n cap) (some (.int .i64 ((lo : Nat) : Int))) none none).run Tryd.prog w = .ok (.slice (some ⟨g, lo * 3, none⟩) (n - lo) (cap - lo)) w := by
  have hb : (Instr.sliceBound (.int .i64 ((lo : Nat) : Int)) n .sliceB).run Tryd.prog w = .ok lo w := run_bound h1
  have hne : ¬ cap = lo := by omega
  simp [Instr.sliceAt, Instr.slice, run_underlying under22s, Instr.sliceBounds, hb, size39s, hne, addr_addO]
theorem run_to22 {w : World} {a : Option Addr} {n cap hi : Nat} (h1 : hi ≤ cap) : (Instr.sliceAt 22 (.slice a n cap) none (some (.int .i64 ((hi : Nat) : Int))) none).run Tryd.prog w = .ok (.slice a hi cap) w := by
  have hb : (Instr.sliceBound (.int .i64 ((hi : Nat) : Int)) cap .sliceAcap).run Tryd.prog w = .ok hi w := run_bound h1
  cases a <;> simp [Instr.sliceAt, Instr.slice, run_underlying under22s, Instr.sliceBounds, hb, size39s, run_bound h1, add_zero_addr]
theorem fc_one {x : Fe} : ∀ v ∈ fc x, v.oneCell' = true := fun v hv => by
  simp only [fc, List.mem_cons, List.not_mem_nil, or_false] at hv
  rcases hv with rfl | rfl | rfl <;> rfl
theorem fcs_one {L : List Fe} : ∀ v ∈ fcs L, v.oneCell' = true := fun u hu => by
  obtain ⟨x, _, hx⟩ := List.mem_flatMap.1 hu
  exact fc_one u hx
theorem row_own39 {g n cap : Nat} {xs : List Value} {cur : Array Value} (h : RowH 39 3 (.slice (some ⟨g, 0, none⟩) n cap) n xs [(g, .cells cur 39)]) : n ≤ cap ∧ cap ≤ maxLen ∧ cur.size = cap * 3 ∧ cur.toList.take (n * 3) = xs := by
  rcases h.2 with ⟨h, _⟩ | ⟨g', cap', cur', hv, hF, h1, h2, h3, h4⟩
  · cases h
  · cases hv; cases hF; exact ⟨h1, h2, h3, h4⟩
theorem take_cells {cur : Array Value} {xs : List Value} {n : Nat} (h : cur.toList.take n = xs) (j : Nat) (u : Value) (hu : xs[j]? = some u) : cur[j]? = some u := by
  rw [← h, List.getElem?_take] at hu
  split at hu
  · simpa using hu
  · cases hu
theorem run_over {w : World} {vb b n c lb cb : Nat} {o : Nat} {cv cb' : Array Value} {f1 : Nat × Nat} (hne : vb ≠ b) (h1 : w.heap[vb]? = some (.cells cv 39 (0, 0))) (h2 : w.heap[b]? = some (.cells cb' 39 (0, 0))) (hb : cb'.size ≠ 0) :
    (callFunc 116 #[.slice (some ⟨vb, 0, none⟩) n c, .slice (some ⟨b, o, none⟩) lb cb]).run Tryd.prog w = .ok (.value (.bool false)) w := by
  rw [run_callFunc_extern Tryd.func116 (by kernel_rfl) (by kernel_rfl) (by kernel_rfl) (e := Extern.SlicesOverlaps.overlaps #[22, 22] #[4]) (by kernel_rfl),
    Lib.run_overlaps_apart w 22 4 39 under22s 3 size39s ⟨vb, 0, none⟩ ⟨b, o, none⟩ n c lb cb hne 39 39 cv.size cb'.size (by simp [World.shape?, h1]) (by simp [World.shape?, h2]) hb (by simp [World.frozen?, h1]) (by simp [World.frozen?, h1])]
  rfl

theorem row_as {v : Value} {n : Nat} {xs ys : List Value} {F : List OB} (h : RowH 39 3 v n xs F) (e : xs = ys) : RowH 39 3 v n ys F := e ▸ h
theorem fcl {x : Fe} : (fc x).length = 3 := rfl
theorem fc_arr {x : Fe} (j : Nat) (u : Value) (hu : (fc x)[j]? = some u) : (#[.int .i64 x.k, .string ⟨x.a.toArray⟩, .string ⟨x.v.toArray⟩] : Array Value)[j]? = some u := by
  simpa [fc] using hu
theorem ins_grow {xs zs ys : List Value} {n i : Nat} (hxl : xs.length = n * 3) (hzl : zs.length = (n + 1 - i) * 3) (hy : i < n ∧ ys.length = 3) :
    ((xs.take (i * 3) ++ zs).take (i * 3) ++ ys ++ (xs.take (i * 3) ++ zs).drop ((i + 1) * 3)).take ((i + 1) * 3) ++ xs.drop (i * 3) ++ ((xs.take (i * 3) ++ zs).take (i * 3) ++ ys ++ (xs.take (i * 3) ++ zs).drop ((i + 1) * 3)).drop ((i + 1 + (n - i)) * 3) = xs.take (i * 3) ++ ys ++ xs.drop (i * 3) := by
  obtain ⟨hi, hy⟩ := hy
  have h0 : (xs.take (i * 3)).length = i * 3 := by rw [List.length_take, hxl]; omega
  have h1 : (xs.take (i * 3) ++ zs).take (i * 3) = xs.take (i * 3) := List.take_left' h0
  have h2 : ((xs.take (i * 3) ++ zs).take (i * 3) ++ ys).length = (i + 1) * 3 := by rw [h1, List.length_append, h0, hy]; omega
  rw [List.take_left' h2, h1, List.drop_of_length_le (l := _ ++ _), List.append_nil]
  rw [List.length_append, List.length_append, h0, hy, List.length_drop, List.length_append, h0, hzl]; omega
theorem ins_room {xs zs ys : List Value} {n i : Nat} (hxl : xs.length = n * 3) (hzl : zs.length = (n + 1 - n) * 3) (hy : i < n ∧ ys.length = 3) :
    ((xs ++ zs).take ((i + 1) * 3) ++ xs.drop (i * 3) ++ (xs ++ zs).drop ((i + 1 + (n - i)) * 3)).take (i * 3) ++ ys ++ ((xs ++ zs).take ((i + 1) * 3) ++ xs.drop (i * 3) ++ (xs ++ zs).drop ((i + 1 + (n - i)) * 3)).drop ((i + 1) * 3) = xs.take (i * 3) ++ ys ++ xs.drop (i * 3) := by
  obtain ⟨hi, hy⟩ := hy
  have h0 : ((xs ++ zs).take ((i + 1) * 3)).length = (i + 1) * 3 := by rw [List.length_take, List.length_append, hxl, hzl]; omega
  have e1 : (xs ++ zs).drop ((i + 1 + (n - i)) * 3) = [] := List.drop_of_length_le (by rw [List.length_append, hxl, hzl]; omega)
  rw [e1, List.append_nil, List.drop_left' h0, List.take_append_of_le_length (by omega), List.take_take, Nat.min_eq_left (by omega), List.take_append_of_le_length (by omega)]

set_option maxHeartbeats 2000000 in
theorem insertMid_c {I : IM} {g n i c0 kb : Nat} {x : Fe} {xs : List Value} {cur : Array Value} (hr : RowH 39 3 (.slice (some ⟨g, 0, none⟩) n c0) n xs [(g, .cells cur 39)]) (hn : n ≤ 1000) (hi : i < n) (hone : ∀ v ∈ xs, v.oneCell' = true) (hIg : I g = none) (hk : I kb = some (.cells #[.int .i64 x.k, .string ⟨x.a.toArray⟩, .string ⟨x.v.toArray⟩] 39)) : FunM Tryd.prog 98 #[.slice (some ⟨g, 0, none⟩) n c0, .int .i64 ((i : Nat) : Int), .slice (some ⟨kb, 0, none⟩) 1 1] I [(g, .cells cur 39)] (fun v J F' => RowH 39 3 v (n + 1) (xs.take (i * 3) ++ fc x ++ xs.drop (i * 3)) F') := by
 have hxl := hr.1
 obtain ⟨hnc, hcm, hcs, hxs⟩ := row_own39 hr
 refine enterM_rule 95 [(0, .slice (some ⟨g, 0, none⟩) n c0), (1, .int .i64 i), (2, .slice (some ⟨kb, 0, none⟩) 1 1)] Tryd.func98 rfl (by kernel_rfl) ?_
 intro w s
 refine seqR ?_
 refine oKD [] [(g, .cells cur 39)] 1 [] 0 (fun φ1 => [(6, .slice none 0 0)]) (fun φ1 => []) s (fun φ1 => by kernel_rfl) (by kernel_rfl) ?_
 intro φ1 w1 s
 refine seqR ?_
 refine oK [] [(g, .cells cur 39)] 2 [] 0 (fun φ2 => [(11, .int .i64 i), (10, .slice (some ⟨g, 0, none⟩) n c0)]) (fun φ2 => []) s (fun φ2 => by kernel_rfl) ?_
 intro φ2 w2 s
 refine sem_rule (Instr.sliceAt 22 (.slice (some ⟨g, 0, none⟩) n c0) (some (.int .i64 i)) none none) (some 12) (.slice (some ⟨g, i * 3, none⟩) (n - i) (c0 - i)) (by kernel_rfl) (run_from22 (by omega) (by omega) (by omega)) ?_
 refine ops_done (by kernel_rfl) ?_
 refine seqR ?_
 refine oKD [] [(g, .cells cur 39)] 3 [] 0 (fun φ3 => [(7, .int .i64 1), (14, .int .i64 1), (13, .slice (some ⟨kb, 0, none⟩) 1 1)]) (fun φ3 => []) s (fun φ3 => by kernel_rfl) (by kernel_rfl) ?_
 intro φ3 w3 s
 refine wp_seq ?_
 refine seqR ?_
 refine oKD [] [(g, .cells cur 39)] 2 [] 0 (fun φ4 => [(16, .bool false), (15, .int .i64 1)]) (fun φ4 => []) s (fun φ4 => by kernel_rfl) (by kernel_rfl) ?_
 intro φ4 w4 s
 refine cond_false_rule (b := false) (by kernel_rfl) rfl ?_
 refine wp_skip ?_
 refine seqR ?_
 refine oKD [] [(g, .cells cur 39)] 3 [] 0 (fun φ5 => [(8, .int .i64 n), (19, .int .i64 n), (18, .slice (some ⟨g, 0, none⟩) n c0)]) (fun φ5 => []) s (fun φ5 => by kernel_rfl) (by kernel_rfl) ?_
 intro φ5 w5 s
 refine wp_seq ?_
 refine seqR ?_
 refine oK [] [(g, .cells cur 39)] 3 [] 0 (fun φ6 => [(22, .bool (((i : Nat) : Int) == ((n : Nat) : Int))), (21, .int .i64 n), (20, .int .i64 i)]) (fun φ6 => []) s (fun φ6 => by kernel_rfl) ?_
 intro φ6 w6 s
 rw [nat_eql (a := i) (b := n)]
 refine ops_done (by kernel_rfl) ?_
 rcases Bool.eq_false_or_eq_true (decide (i = n)) with hc7 | hc7
 ·
  exact absurd (dT9 hc7) (by omega)
 ·
  rw [hc7]
  refine cond_false_rule (b := false) (by kernel_rfl) rfl ?_
  refine wp_skip ?_
  refine wp_seq ?_
  refine seqR ?_
  refine oK [] [(g, .cells cur 39)] 6 [] 0 (fun φ8 => [(31, .bool (decide ((IntKind.wrap .i64 (((n : Nat) : Int) + ((1 : Nat) : Int))) > ((c0 : Nat) : Int)))), (30, .int .i64 c0), (29, .slice (some ⟨g, 0, none⟩) n c0), (28, .int .i64 (IntKind.wrap .i64 (((n : Nat) : Int) + ((1 : Nat) : Int)))), (27, .int .i64 1), (26, .int .i64 n)]) (fun φ8 => []) s (fun φ8 => by kernel_rfl) ?_
  intro φ8 w8 s
  rw [nat_addI (a := n) (b := 1) (by  have hq0 := dF9 hc7; omega)]
  rw [nat_gtr (a := (n + 1)) (b := c0)]
  refine ops_done (by kernel_rfl) ?_
  rcases Bool.eq_false_or_eq_true (decide (c0 < (n + 1))) with hc9 | hc9
  ·
   rw [hc9]
   refine cond_true_rule (b := true) (by kernel_rfl) rfl ?_
   refine seqR ?_
   refine oK [] [(g, .cells cur 39)] 2 [] 0 (fun φ10 => [(33, .int .i64 i), (32, .slice (some ⟨g, 0, none⟩) n c0)]) (fun φ10 => []) s (fun φ10 => by kernel_rfl) ?_
   intro φ10 w10 s
   refine sem_rule (Instr.sliceAt 22 (.slice (some ⟨g, 0, none⟩) n c0) none (some (.int .i64 i)) none) (some 34) (.slice (some ⟨g, 0, none⟩) i c0) (by kernel_rfl) (run_to22 (by omega)) ?_
   refine oK [] [(g, .cells cur 39)] 5 [] 0 (fun φ11 => [(39, .int .i64 (IntKind.wrap .i64 ((IntKind.wrap .i64 (((n : Nat) : Int) + ((1 : Nat) : Int))) - ((i : Nat) : Int)))), (38, .int .i64 i), (37, .int .i64 (IntKind.wrap .i64 (((n : Nat) : Int) + ((1 : Nat) : Int)))), (36, .int .i64 1), (35, .int .i64 n)]) (fun φ11 => []) s (fun φ11 => by kernel_rfl) ?_
   intro φ11 w11 s
   rw [nat_addI (a := n) (b := 1) (by  have hq0 := dF9 hc7; have hq1 := dT9 hc9; omega)]
   rw [nat_subI (a := (n + 1)) (b := i) (by  have hq0 := dF9 hc7; have hq1 := dT9 hc9; omega) (by  have hq0 := dF9 hc7; have hq1 := dT9 hc9; omega)]
   have hq0 := dF9 hc7
   have hq1 := dT9 hc9
   have hI12 := IM.add_self I g (.cells cur 39)
   replace s := St.freeze (H := []) s
   have le12 : I.Le (I.add g (.cells cur 39)) := IM.le_add hIg _
   generalize hJ12 : I.add g (.cells cur 39) = J12 at s hI12 le12
   replace hk := le12 _ _ hk
   obtain ⟨g12, c12, w12, F12, hr12, s, h12⟩ := append_frozZ (H := []) (k := n + 1 - i) (n := i) (cap := c0) (xs := xs.take (i * 3)) s 22 3 22 39 Tryd.t39 (.agg #[.int .i64 0, .string ⟨#[]⟩, .string ⟨#[]⟩]) 3 40 .i64 .i64 Tryd.underlying22 Tryd.underlying3 (by kernel_rfl) (by kernel_rfl) (by kernel_rfl) (by kernel_rfl) (by kernel_rfl) (by decide) hI12 (by rw [List.length_take, hxl]; omega) (fun j u hu => take_cells hxs j u (by rw [List.getElem?_take] at hu; split at hu; exact hu; cases hu)) (by omega) (by omega) (by omega) (by simp only [maxLen]; omega) (by omega)
   have eq12 : i + (n + 1 - i) = n + 1 := by omega
   rw [eq12] at hr12 h12
   obtain ⟨zs, hz, hzl⟩ : ∃ zs, zs = (Builtin.zeroCells (Value.agg #[.int .i64 0, .string ⟨#[]⟩, .string ⟨#[]⟩]).cells (n + 1 - i)).toList ∧ zs.length = (n + 1 - i) * 3 := ⟨_, rfl, by rw [Array.length_toList, size_zeroCells]; rfl⟩
   rw [← hz] at h12
   refine sem_rule (Builtin.append_ #[22, 3] 22 #[.slice (some ⟨g, 0, none⟩) i c0, .int .i64 (((n + 1) - i : Nat) : Int)]) (some 40) (.slice (some ⟨g12, 0, none⟩) (n + 1) c12) (by kernel_rfl) hr12 ?_
   have hb12 := row_cap39 h12
   refine oKD [] F12 1 [] 0 (fun φ13 => [(9, .slice (some ⟨g12, 0, none⟩) (n + 1) c12)]) (fun φ13 => []) s (fun φ13 => by kernel_rfl) (by kernel_rfl) ?_
   intro φ13 w13 s
   refine seqR ?_
   refine oK [] F12 2 [] 0 (fun φ14 => [(42, .int .i64 i), (41, .slice (some ⟨g12, 0, none⟩) (n + 1) c12)]) (fun φ14 => []) s (fun φ14 => by kernel_rfl) ?_
   intro φ14 w14 s
   refine sem_rule (Instr.sliceAt 22 (.slice (some ⟨g12, 0, none⟩) (n + 1) c12) (some (.int .i64 i)) none none) (some 43) (.slice (some ⟨g12, i * 3, none⟩) ((n + 1) - i) (c12 - i)) (by kernel_rfl) (run_from22 (by omega) (by omega) (by omega)) ?_
   refine oK [] F12 1 [] 0 (fun φ15 => [(44, .slice (some ⟨kb, 0, none⟩) 1 1)]) (fun φ15 => []) s (fun φ15 => by kernel_rfl) ?_
   intro φ15 w15 s
   obtain ⟨w16, F16, hr16, s, h16⟩ := copy_row (H := []) (o := i) (k := 1) (dCap := (c12 - i)) (sLen := 1) (sCap := 1) (cs := fc x) s 22 22 3 39 Tryd.t39 3 Tryd.underlying22 (by kernel_rfl) (by kernel_rfl) h12 rfl (by simp only [Nat.min_def]; split <;> omega) (by omega) (fun j u hu => by rw [addr_addO, Nat.zero_add]; exact (run_cell (a := ⟨kb, j, none⟩) (s.sub _ _ hk) rfl rfl).trans (fc_arr j u hu)) fc_one
   refine sem_rule (Builtin.copy_ #[22, 22] 3 #[.slice (some ⟨g12, i * 3, none⟩) ((n + 1) - i) (c12 - i), .slice (some ⟨kb, 0, none⟩) 1 1]) (some 45) (.int .i64 ((1 : Nat) : Int)) (by kernel_rfl) hr16 ?_
   refine ops_done (by kernel_rfl) ?_
   refine wp_seq ?_
   have hl17 := IM.Le.refl J12
   refine held_begin (n := 9) (SubS J12) (by kernel_rfl) (by kernel_rfl) ?_
   replace s := St.drew s
   refine held_take (fuel := 8) [] [] 0 (.slice (some ⟨g12, 0, none⟩) (n + 1) c12) (some 46) [] (I := J12) trivial (by kernel_rfl) (by kernel_rfl) (by kernel_rfl) (by kernel_rfl) (by kernel_rfl) (fun _ d' _ _ _ h => by cases d' <;> exact h) (by kernel_rfl) (by kernel_rfl) s.sub ?_
   refine held_take (fuel := 7) [] [] 1 (.int .i64 i) (some 47) [] (I := J12) trivial (by kernel_rfl) (by kernel_rfl) (by kernel_rfl) (by kernel_rfl) (by kernel_rfl) (fun _ d' _ _ _ h => by cases d' <;> exact h) (by kernel_rfl) (by kernel_rfl) s.sub ?_
   refine held_take (fuel := 6) [] [] 2 (.int .i64 1) (some 48) [] (I := J12) trivial (by kernel_rfl) (by kernel_rfl) (by kernel_rfl) (by kernel_rfl) (by kernel_rfl) (fun _ d' _ _ _ h => by cases d' <;> exact h) (by kernel_rfl) (by kernel_rfl) s.sub ?_
   refine held_ran (fuel := 5) (binOp .add 3 (.int .i64 i) (.int .i64 1)) 3 (.int .i64 ((i + 1 : Nat) : Int)) (some 49) (I := J12) (by kernel_rfl) (by kernel_rfl) (by kernel_rfl) (by kernel_rfl) (by kernel_rfl) (fun _ d' _ _ _ h => by cases d' <;> exact h) (by kernel_rfl) (by kernel_rfl) (fun w' => run_addI (a := i) (b := 1) (by omega)) s.sub ?_
   refine held_ran (fuel := 4) (Instr.sliceAt 22 (.slice (some ⟨g12, 0, none⟩) (n + 1) c12) (some (.int .i64 ((i + 1 : Nat) : Int))) none none) 4 (.slice (some ⟨g12, (i + 1) * 3, none⟩) ((n + 1) - (i + 1)) (c12 - (i + 1))) (some 50) (I := J12) (by kernel_rfl) (by kernel_rfl) (by kernel_rfl) (by kernel_rfl) (by kernel_rfl) (fun _ d' _ _ _ h => by cases d' <;> exact h) (by kernel_rfl) (by kernel_rfl) (fun w' => run_from22 (by omega) (by omega) (by omega)) s.sub ?_
   refine held_take (fuel := 3) [] [] 5 (.slice (some ⟨g, 0, none⟩) n c0) (some 51) [] (I := J12) trivial (by kernel_rfl) (by kernel_rfl) (by kernel_rfl) (by kernel_rfl) (by kernel_rfl) (fun _ d' _ _ _ h => by cases d' <;> exact h) (by kernel_rfl) (by kernel_rfl) s.sub ?_
   refine held_take (fuel := 2) [] [] 6 (.int .i64 i) (some 52) [] (I := J12) trivial (by kernel_rfl) (by kernel_rfl) (by kernel_rfl) (by kernel_rfl) (by kernel_rfl) (fun _ d' _ _ _ h => by cases d' <;> exact h) (by kernel_rfl) (by kernel_rfl) s.sub ?_
   refine held_ran (fuel := 1) (Instr.sliceAt 22 (.slice (some ⟨g, 0, none⟩) n c0) (some (.int .i64 i)) none none) 7 (.slice (some ⟨g, i * 3, none⟩) (n - i) (c0 - i)) (some 53) (I := J12) (by kernel_rfl) (by kernel_rfl) (by kernel_rfl) (by kernel_rfl) (by kernel_rfl) (fun _ d' _ _ _ h => by cases d' <;> exact h) (by kernel_rfl) (by kernel_rfl) (fun w' => run_from22 (by omega) (by omega) (by omega)) s.sub ?_
   refine held_one (fuel := 0) 8 (by kernel_rfl) (by kernel_rfl) ?_
   obtain ⟨w18, F18, hr18, s, h18⟩ := copy_row (H := []) (o := (i + 1)) (k := (n - i)) (dCap := (c12 - (i + 1))) (sLen := (n - i)) (sCap := (c0 - i)) (cs := (xs.drop (i * 3))) s 22 22 3 39 Tryd.t39 3 Tryd.underlying22 (by kernel_rfl) (by kernel_rfl) h16 (by rw [List.length_drop, hxl]; omega) (by simp only [Nat.min_def]; split <;> omega) (by omega) (fun j u hu => by rw [addr_addO]; refine (run_cell (a := ⟨g, i * 3 + j, none⟩) (s.sub _ _ hI12) rfl rfl).trans (take_cells hxs _ _ ?_); rw [List.getElem?_drop] at hu; exact hu) (fun v hv => hone v (List.mem_of_mem_drop hv))
   refine sem_rule (Builtin.copy_ #[22, 22] 3 #[.slice (some ⟨g12, (i + 1) * 3, none⟩) ((n + 1) - (i + 1)) (c12 - (i + 1)), .slice (some ⟨g, i * 3, none⟩) (n - i) (c0 - i)]) (some 54) (.int .i64 (((n - i) : Nat) : Int)) (by kernel_rfl) hr18 ?_
   refine ops_done (by kernel_rfl) ?_
   refine held_next s hl17 ?_
   refine Go.wpAnyH_done (by kernel_rfl) ?_ _
   refine seqR ?_
   refine oKD [] F18 2 [] 0 (fun φ19 => [(6, .slice (some ⟨g12, 0, none⟩) (n + 1) c12), (55, .slice (some ⟨g12, 0, none⟩) (n + 1) c12)]) (fun φ19 => []) s (fun φ19 => by kernel_rfl) (by kernel_rfl) ?_
   intro φ19 w19 s
   refine wp_ret ?_
   refine ret_rule (C := []) [] F18 (.slice (some ⟨g12, 0, none⟩) (n + 1) c12) [] [] s trivial (by kernel_rfl) ?_
   replace s := s.drop (List.sublist_append_right [] F18)
   exact ⟨_, _, _, rfl, s, (row_as h18 (ins_grow hxl hzl ⟨hi, fcl⟩))⟩
  ·
   rw [hc9]
   refine cond_false_rule (b := false) (by kernel_rfl) rfl ?_
   refine wp_skip ?_
   refine seqR ?_
   refine oK [] [(g, .cells cur 39)] 4 [] 0 (fun φ21 => [(59, .int .i64 (IntKind.wrap .i64 (((n : Nat) : Int) + ((1 : Nat) : Int)))), (58, .int .i64 1), (57, .int .i64 n), (56, .slice (some ⟨g, 0, none⟩) n c0)]) (fun φ21 => []) s (fun φ21 => by kernel_rfl) ?_
   intro φ21 w21 s
   rw [nat_addI (a := n) (b := 1) (by  have hq0 := dF9 hc7; have hq1 := dF9 hc9; omega)]
   have hq0 := dF9 hc7
   have hq1 := dF9 hc9
   refine sem_rule (Instr.sliceAt 22 (.slice (some ⟨g, 0, none⟩) n c0) none (some (.int .i64 ((n + 1 : Nat) : Int))) none) (some 60) (.slice (some ⟨g, 0, none⟩) (n + 1) c0) (by kernel_rfl) (run_to22 (by omega)) ?_
   obtain ⟨zs, hzl, h22⟩ := RowH.more (n' := n + 1) hr (by omega) (by omega)
   refine oKD [] [(g, .cells cur 39)] 1 [] 0 (fun φ23 => [(0, .slice (some ⟨g, 0, none⟩) (n + 1) c0)]) (fun φ23 => []) s (fun φ23 => by kernel_rfl) (by kernel_rfl) ?_
   intro φ23 w23 s
   refine wp_seq ?_
   refine seqR ?_
   refine oK [] [(g, .cells cur 39)] 5 [] 0 (fun φ24 => [(65, .int .i64 (IntKind.wrap .i64 (((i : Nat) : Int) + ((1 : Nat) : Int)))), (64, .int .i64 1), (63, .int .i64 i), (62, .slice (some ⟨g, 0, none⟩) (n + 1) c0), (61, .slice (some ⟨kb, 0, none⟩) 1 1)]) (fun φ24 => []) s (fun φ24 => by kernel_rfl) ?_
   intro φ24 w24 s
   rw [nat_addI (a := i) (b := 1) (by  have hq0 := dF9 hc7; have hq1 := dF9 hc9; omega)]
   refine sem_rule (Instr.sliceAt 22 (.slice (some ⟨g, 0, none⟩) (n + 1) c0) (some (.int .i64 ((i + 1 : Nat) : Int))) none none) (some 66) (.slice (some ⟨g, (i + 1) * 3, none⟩) ((n + 1) - (i + 1)) (c0 - (i + 1))) (by kernel_rfl) (run_from22 (by omega) (by omega) (by omega)) ?_
   refine semN_rule (callFunc 116 #[.slice (some ⟨kb, 0, none⟩) 1 1, .slice (some ⟨g, (i + 1) * 3, none⟩) ((n + 1) - (i + 1)) (c0 - (i + 1))]) (some 67) (.bool false) (by kernel_rfl) (run_over (f1 := (0, 0)) (fun e => by rw [e, hIg] at hk; cases hk) (s.sub _ _ hk) (s.own (g, .cells cur 39) (by simp)) (by omega)) ?_
   refine oKD [] [(g, .cells cur 39)] 1 [] 0 (fun φ25 => [(68, .bool true)]) (fun φ25 => []) s (fun φ25 => by kernel_rfl) (by kernel_rfl) ?_
   intro φ25 w25 s
   refine cond_true_rule (b := true) (by kernel_rfl) rfl ?_
   refine wp_seq ?_
   have hl26 := IM.Le.refl I
   refine held_begin (n := 9) (SubS I) (by kernel_rfl) (by kernel_rfl) ?_
   replace s := St.drew s
   refine held_take (fuel := 8) [] [] 0 (.slice (some ⟨g, 0, none⟩) (n + 1) c0) (some 69) [] (I := I) trivial (by kernel_rfl) (by kernel_rfl) (by kernel_rfl) (by kernel_rfl) (by kernel_rfl) (fun _ d' _ _ _ h => by cases d' <;> exact h) (by kernel_rfl) (by kernel_rfl) s.sub ?_
   refine held_take (fuel := 7) [] [] 1 (.int .i64 i) (some 70) [] (I := I) trivial (by kernel_rfl) (by kernel_rfl) (by kernel_rfl) (by kernel_rfl) (by kernel_rfl) (fun _ d' _ _ _ h => by cases d' <;> exact h) (by kernel_rfl) (by kernel_rfl) s.sub ?_
   refine held_take (fuel := 6) [] [] 2 (.int .i64 1) (some 71) [] (I := I) trivial (by kernel_rfl) (by kernel_rfl) (by kernel_rfl) (by kernel_rfl) (by kernel_rfl) (fun _ d' _ _ _ h => by cases d' <;> exact h) (by kernel_rfl) (by kernel_rfl) s.sub ?_
   refine held_ran (fuel := 5) (binOp .add 3 (.int .i64 i) (.int .i64 1)) 3 (.int .i64 ((i + 1 : Nat) : Int)) (some 72) (I := I) (by kernel_rfl) (by kernel_rfl) (by kernel_rfl) (by kernel_rfl) (by kernel_rfl) (fun _ d' _ _ _ h => by cases d' <;> exact h) (by kernel_rfl) (by kernel_rfl) (fun w' => run_addI (a := i) (b := 1) (by omega)) s.sub ?_
   refine held_ran (fuel := 4) (Instr.sliceAt 22 (.slice (some ⟨g, 0, none⟩) (n + 1) c0) (some (.int .i64 ((i + 1 : Nat) : Int))) none none) 4 (.slice (some ⟨g, (i + 1) * 3, none⟩) ((n + 1) - (i + 1)) (c0 - (i + 1))) (some 73) (I := I) (by kernel_rfl) (by kernel_rfl) (by kernel_rfl) (by kernel_rfl) (by kernel_rfl) (fun _ d' _ _ _ h => by cases d' <;> exact h) (by kernel_rfl) (by kernel_rfl) (fun w' => run_from22 (by omega) (by omega) (by omega)) s.sub ?_
   refine held_take (fuel := 3) [] [] 5 (.slice (some ⟨g, 0, none⟩) (n + 1) c0) (some 74) [] (I := I) trivial (by kernel_rfl) (by kernel_rfl) (by kernel_rfl) (by kernel_rfl) (by kernel_rfl) (fun _ d' _ _ _ h => by cases d' <;> exact h) (by kernel_rfl) (by kernel_rfl) s.sub ?_
   refine held_take (fuel := 2) [] [] 6 (.int .i64 i) (some 75) [] (I := I) trivial (by kernel_rfl) (by kernel_rfl) (by kernel_rfl) (by kernel_rfl) (by kernel_rfl) (fun _ d' _ _ _ h => by cases d' <;> exact h) (by kernel_rfl) (by kernel_rfl) s.sub ?_
   refine held_ran (fuel := 1) (Instr.sliceAt 22 (.slice (some ⟨g, 0, none⟩) (n + 1) c0) (some (.int .i64 i)) none none) 7 (.slice (some ⟨g, i * 3, none⟩) ((n + 1) - i) (c0 - i)) (some 76) (I := I) (by kernel_rfl) (by kernel_rfl) (by kernel_rfl) (by kernel_rfl) (by kernel_rfl) (fun _ d' _ _ _ h => by cases d' <;> exact h) (by kernel_rfl) (by kernel_rfl) (fun w' => run_from22 (by omega) (by omega) (by omega)) s.sub ?_
   refine held_one (fuel := 0) 8 (by kernel_rfl) (by kernel_rfl) ?_
   obtain ⟨w27, F27, hr27, s, h27⟩ := copy_row (H := []) (o := (i + 1)) (k := (n - i)) (dCap := (c0 - (i + 1))) (sLen := ((n + 1) - i)) (sCap := (c0 - i)) (cs := (xs.drop (i * 3))) s 22 22 3 39 Tryd.t39 3 Tryd.underlying22 (by kernel_rfl) (by kernel_rfl) h22 (by rw [List.length_drop, hxl]; omega) (by simp only [Nat.min_def]; split <;> omega) (by omega) (fun j u hu => by rw [addr_addO]; refine row_cell s h22 ?_; rw [List.getElem?_append_left (l₁ := xs) (l₂ := zs) (i := i * 3 + j) (by have := (List.getElem?_eq_some_iff.1 hu).1; rw [List.length_drop] at this; omega)]; rw [List.getElem?_drop] at hu; exact hu) (fun v hv => hone v (List.mem_of_mem_drop hv))
   refine sem_rule (Builtin.copy_ #[22, 22] 3 #[.slice (some ⟨g, (i + 1) * 3, none⟩) ((n + 1) - (i + 1)) (c0 - (i + 1)), .slice (some ⟨g, i * 3, none⟩) ((n + 1) - i) (c0 - i)]) (some 77) (.int .i64 (((n - i) : Nat) : Int)) (by kernel_rfl) hr27 ?_
   refine ops_done (by kernel_rfl) ?_
   refine held_next s hl26 ?_
   refine Go.wpAnyH_done (by kernel_rfl) ?_ _
   refine seqR ?_
   refine oK [] F27 2 [] 0 (fun φ28 => [(79, .int .i64 i), (78, .slice (some ⟨g, 0, none⟩) (n + 1) c0)]) (fun φ28 => []) s (fun φ28 => by kernel_rfl) ?_
   intro φ28 w28 s
   refine sem_rule (Instr.sliceAt 22 (.slice (some ⟨g, 0, none⟩) (n + 1) c0) (some (.int .i64 i)) none none) (some 80) (.slice (some ⟨g, i * 3, none⟩) ((n + 1) - i) (c0 - i)) (by kernel_rfl) (run_from22 (by omega) (by omega) (by omega)) ?_
   refine oK [] F27 1 [] 0 (fun φ29 => [(81, .slice (some ⟨kb, 0, none⟩) 1 1)]) (fun φ29 => []) s (fun φ29 => by kernel_rfl) ?_
   intro φ29 w29 s
   obtain ⟨w30, F30, hr30, s, h30⟩ := copy_row (H := []) (o := i) (k := 1) (dCap := (c0 - i)) (sLen := 1) (sCap := 1) (cs := fc x) s 22 22 3 39 Tryd.t39 3 Tryd.underlying22 (by kernel_rfl) (by kernel_rfl) h27 rfl (by simp only [Nat.min_def]; split <;> omega) (by omega) (fun j u hu => by rw [addr_addO, Nat.zero_add]; exact (run_cell (a := ⟨kb, j, none⟩) (s.sub _ _ hk) rfl rfl).trans (fc_arr j u hu)) fc_one
   refine sem_rule (Builtin.copy_ #[22, 22] 3 #[.slice (some ⟨g, i * 3, none⟩) ((n + 1) - i) (c0 - i), .slice (some ⟨kb, 0, none⟩) 1 1]) (some 82) (.int .i64 ((1 : Nat) : Int)) (by kernel_rfl) hr30 ?_
   refine ops_done (by kernel_rfl) ?_
   refine seqR ?_
   refine oKD [] F30 2 [] 0 (fun φ31 => [(6, .slice (some ⟨g, 0, none⟩) (n + 1) c0), (83, .slice (some ⟨g, 0, none⟩) (n + 1) c0)]) (fun φ31 => []) s (fun φ31 => by kernel_rfl) (by kernel_rfl) ?_
   intro φ31 w31 s
   refine wp_ret ?_
   refine ret_rule (C := []) [] F30 (.slice (some ⟨g, 0, none⟩) (n + 1) c0) [] [] s trivial (by kernel_rfl) ?_
   replace s := s.drop (List.sublist_append_right [] F30)
   exact ⟨_, _, _, rfl, s, (row_as h30 (ins_room hxl hzl ⟨hi, fcl⟩))⟩

end Go.Proofs.YtcpmjogeafhpnaaDoor
/- A card of fields, in any order. -/
set_option linter.all false
set_option maxRecDepth 100000
namespace Go.Proofs.YtcpmjogeafhpnaaDoor
open Go.RowKit Go.Sep
attribute [local irreducible] Go.wpList Go.Code.wp

theorem searchE_c {I : IM} {M : List Fe} {a0 : Option Addr} {c0 : Nat} (h0 : FSl I M (.slice a0 M.length c0)) (hl : M.length ≤ 1000) (hasc : asc M) {x : Fe} : Fun Tryd.prog 97 #[.slice a0 M.length c0, .agg #[.int .i64 x.k, .string ⟨(x.a).toArray⟩, .string ⟨(x.v).toArray⟩], .func (.func 72) #[] #[]] I (fun v J => v = .tuple #[.int .i64 ((rk M x : Nat) : Int), .bool (decide (x ∈ M))]) :=
  search_c (k := x.k) (A := x.a) (B := x.v) h0 hl hasc
theorem fcs_cons (x : Fe) (L : List Fe) : fcs (x :: L) = fc x ++ fcs L := rfl
theorem fcs_takeN : ∀ (L : List Fe) (i : Nat), (fcs L).take (i * 3) = fcs (L.take i)
  | [], i => by simp [fcs]
  | x :: L, 0 => by simp [fcs]
  | x :: L, i + 1 => by
    rw [List.take_succ_cons, fcs_cons, fcs_cons, ← fcs_takeN L i, List.take_append, List.take_of_length_le (by show 3 ≤ _; omega)]
    congr 2
    show (i + 1) * 3 - 3 = i * 3
    omega
theorem fcs_dropN (L : List Fe) (i : Nat) : (fcs L).drop (i * 3) = fcs (L.drop i) := by
  by_cases h : i ≤ L.length
  · have e : fcs L = fcs (L.take i) ++ fcs (L.drop i) := by rw [← fcs_append, List.take_append_drop]
    have hl : (fcs (L.take i)).length = i * 3 := by rw [fcs_length, List.length_take]; omega
    rw [e, List.drop_left' hl]
  · rw [List.drop_of_length_le (by rw [fcs_length]; omega), List.drop_of_length_le (by omega)]; rfl
theorem insF_c {I : IM} {v : Value} {M : List Fe} {F : List OB} {x : Fe} {n kb : Nat} (hr : RowH 39 3 v n (fcs M) F) (hn : n = M.length) (hl : M.length ≤ 1000) (hk : I kb = some (.cells #[.int .i64 x.k, .string ⟨x.a.toArray⟩, .string ⟨x.v.toArray⟩] 39)) :
    FunM Tryd.prog 98 #[v, .int .i64 ((rk M x : Nat) : Int), .slice (some ⟨kb, 0, none⟩) 1 1] I F (fun v' J F' => RowH 39 3 v' (M.length + 1) (fcs (M.take (rk M x) ++ x :: M.drop (rk M x))) F') := by
  subst hn
  have hrk := rk_le (x := x) M
  have e : fcs (M.take (rk M x) ++ x :: M.drop (rk M x)) = (fcs M).take (rk M x * 3) ++ fc x ++ (fcs M).drop (rk M x * 3) := by
    rw [fcs_append, fcs_cons, fcs_takeN, fcs_dropN, List.append_assoc]
  rw [e]
  have hend : ∀ a c, v = .slice a M.length c → rk M x = M.length → FunM Tryd.prog 98 #[v, .int .i64 ((rk M x : Nat) : Int), .slice (some ⟨kb, 0, none⟩) 1 1] I F (fun v' J F' => RowH 39 3 v' (M.length + 1) ((fcs M).take (rk M x * 3) ++ fc x ++ (fcs M).drop (rk M x * 3)) F') := fun a c hv he => by
    rw [he, List.take_of_length_le (by rw [fcs_length]; omega), List.drop_of_length_le (by rw [fcs_length]; omega), List.append_nil]
    subst hv
    exact insertEnd_c (x := x) hr hl (fsl_rbG (z := x.k) (A := x.a) (B := x.v) hk)
  rcases hr.2 with ⟨hv, h0, _⟩ | ⟨g, cap, cur, hv, hF, _⟩
  · exact hend none 0 (by rw [hv, h0]) (by omega)
  · by_cases he : rk M x = M.length
    · exact hend _ _ hv he
    · subst hv
      subst hF
      intro w hw ho
      exact insertMid_c hr hl (by omega) fcs_one (ho.free (g, .cells cur 39) (by simp)) hk w hw ho
theorem row39_ins {L : List Fe} {i : Nat} {v : Value} {F : List OB} (hi : i < L.length) (hm : L.getD i Fe.z ∉ puts (L.take i)) (h : RowH 39 3 v ((puts (L.take i)).length + 1) (fcs ((puts (L.take i)).take (rk (puts (L.take i)) (L.getD i Fe.z)) ++ L.getD i Fe.z :: (puts (L.take i)).drop (rk (puts (L.take i)) (L.getD i Fe.z)))) F) :
    RowH 39 3 v (puts (L.take (i + 1))).length (fcs (puts (L.take (i + 1)))) F := by
  have hl : (puts (L.take (i + 1))).length = (puts (L.take i)).length + 1 := by rw [puts_take hi, ins_len, if_neg hm]
  rw [hl, puts_take hi, ins_not hm]; exact h
theorem row39_same {L : List Fe} {i : Nat} {v : Value} {F : List OB} (hi : i < L.length) (hm : L.getD i Fe.z ∈ puts (L.take i)) (h : RowH 39 3 v (puts (L.take i)).length (fcs (puts (L.take i))) F) : RowH 39 3 v (puts (L.take (i + 1))).length (fcs (puts (L.take (i + 1)))) F := by
  rw [puts_take hi, ins_mem hm]; exact h
/-- the card of right fields, and the error -/
def ofF (L : List Fe) : List Fe := if (puts L).length ≤ 8 then puts L else []
def ofE (L : List Fe) : Nat := if (puts L).length ≤ 8 then 0 else 8
theorem fullP {L : List Fe} {i : Nat} (hi : i < L.length) (hm : L.getD i Fe.z ∉ puts (L.take i)) (h8 : (puts (L.take i)).length = 8) : ¬ (puts L).length ≤ 8 := by
  have h1 := puts_le (L := L) (i + 1)
  rw [puts_take hi, ins_len, if_neg hm] at h1
  omega
theorem of_full {J : IM} {L : List Fe} (h : ¬ (puts L).length ≤ 8) : ∃ a c, (.tuple #[.agg #[.slice none 0 0], .int .i64 8] : Value) = .tuple #[.agg #[.slice a (ofF L).length c], .int .i64 ((ofE L : Nat) : Int)] ∧ FSl J (ofF L) (.slice a (ofF L).length c) := by
  have e1 : ofF L = [] := if_neg h
  have e2 : ofE L = 8 := if_neg h
  rw [e1, e2]
  exact ⟨none, 0, rfl, fsl_nil J⟩
theorem of_ok {J : IM} {L : List Fe} {a : Option Addr} {c : Nat} (hf : FSl J (puts L) (.slice a (puts L).length c)) (h : (puts L).length ≤ 8) : ∃ a' c', (.tuple #[.agg #[.slice a (puts L).length c], .int .i64 0] : Value) = .tuple #[.agg #[.slice a' (ofF L).length c'], .int .i64 ((ofE L : Nat) : Int)] ∧ FSl J (ofF L) (.slice a' (ofF L).length c') := by
  have e1 : ofF L = puts L := if_pos h
  have e2 : ofE L = 0 := if_pos h
  rw [e1, e2]
  exact ⟨a, c, rfl, hf⟩

set_option maxHeartbeats 4000000 in
theorem of_c {I : IM} {L : List Fe} {a0 : Option Addr} {c0 : Nat} (h0 : FSl I L (.slice a0 L.length c0)) (hl : L.length ≤ 1000) : Fun Tryd.prog 57 #[.slice a0 L.length c0] I (fun v J => ∃ a c, v = .tuple #[.agg #[.slice a (ofF L).length c], .int .i64 ((ofE L : Nat) : Int)] ∧ FSl J (ofF L) (.slice a (ofF L).length c)) := by
 refine enter_rule 34 [(0, .slice a0 L.length c0)] Tryd.func57 rfl (by kernel_rfl) ?_
 intro w s
 refine seqR ?_
 refine oAD [] [] 2 [] 1 (fun φ1 => [(3, .int .i64 0), (2, pB (φ1 0))]) (fun φ1 => [(φ1 0, .cells #[.slice none 0 0] 26)]) (fun φ1 => []) s (fun φ1 => by kernel_rfl) (by kernel_rfl) ?_
 intro φ1 w1 s
 refine seqR ?_
 refine oKD _ [] 1 [] 0 (fun φ2 => [(4, .slice none 0 0)]) (fun φ2 => []) s (fun φ2 => by kernel_rfl) (by kernel_rfl) ?_
 intro φ2 w2 s
 refine wp_seq ?_
 refine seqR ?_
 refine oKD _ [] 3 [] 0 (fun φ3 => [(11, .int .i64 0), (10, .int .i64 L.length), (9, .slice a0 L.length c0)]) (fun φ3 => []) s (fun φ3 => by kernel_rfl) (by kernel_rfl) ?_
 intro φ3 w3 s
 refine wp_block ?_
 have hle4 := IM.Le.refl I
 refine loop_rule (fun (x : Nat × Value × List OB) => [(0, .slice a0 L.length c0), (2, pB (φ1 0)), (3, .int .i64 0), (9, .slice a0 L.length c0), (10, .int .i64 L.length), (11, .int .i64 x.1), (4, x.2.1)]) (fun (x : Nat × Value × List OB) => [(φ1 0, .cells #[.slice none 0 0] 26)] ++ x.2.2) (fun m (x : Nat × Value × List OB) J => IM.Le I J ∧ x.1 + m = L.length ∧ RowH 39 3 x.2.1 (puts (L.take x.1)).length (fcs (puts (L.take x.1))) x.2.2 ∧ (puts (L.take x.1)).length ≤ 8) (L.length) (0, (.slice none 0 0), []) s (by kernel_rfl) (List.Sublist.refl _) ⟨IM.Le.refl _, Nat.zero_add _, (RowH.nil 39 3), by simp [puts_nil]⟩ ?_
 rintro m5 ⟨i5, v5, F5⟩ I5 w5 ev5 s ⟨le5, hi5_0, hi5_1, hi5_2⟩
 try dsimp only at s hi5_0 hi5_1 hi5_2 ⊢
 replace h0 := FSl.mono le5 h0
 replace hle4 := leMono le5 hle4
 refine seqR ?_
 refine oK _ F5 1 [] 0 (fun φ6 => [(12, .bool (decide (((i5 : Nat) : Int) < ((L.length : Nat) : Int))))]) (fun φ6 => []) s (fun φ6 => by kernel_rfl) ?_
 intro φ6 w6 s
 rw [nat_lss (a := i5) (b := L.length)]
 refine ops_done (by kernel_rfl) ?_
 refine wp_seq ?_
 rcases Bool.eq_false_or_eq_true (decide (i5 < L.length)) with hc7 | hc7
 ·
  rw [hc7]
  refine cond_true_rule (b := true) (by kernel_rfl) rfl ?_
  refine wp_skip ?_
  refine wp_seq ?_
  refine wp_block ?_
  refine seqR ?_
  refine sem_rule (Instr.indexAt 22 (.slice a0 L.length c0) (.int .i64 i5)) (some 13) (.pointer (pAt a0 (i5 * 3))) (by kernel_rfl) (fsl_idx22 h0 (by have e8 := hi5_0; have e7 := hi5_2; have hq0 := dT9 hc7; omega)) ?_
  refine sem_rule (Instr.loadAt 39 (.pointer (pAt a0 (i5 * 3)))) (some 14) (.agg #[.int .i64 ((List.getD L i5 Fe.z).k), .string ⟨((List.getD L i5 Fe.z).a).toArray⟩, .string ⟨((List.getD L i5 Fe.z).v).toArray⟩]) (by kernel_rfl) (fsl_ld39 s.sub h0 (by have e8 := hi5_0; have e7 := hi5_2; have hq0 := dT9 hc7; omega)) ?_
  refine oAD _ F5 2 [.o 1, .o 1, .o 1] 1 (fun φ8 => [(6, pB (φ8 0))]) (fun φ8 => [(φ1 0, .cells #[.slice none 0 0] 26), (φ8 0, .cells #[.int .i64 ((List.getD L i5 Fe.z).k), .string ⟨((List.getD L i5 Fe.z).a).toArray⟩, .string ⟨((List.getD L i5 Fe.z).v).toArray⟩] 39)]) (fun φ8 => [φ8 0, φ8 0, φ8 0]) s (fun φ8 => by kernel_rfl) (by kernel_rfl) ?_
  intro φ8 w8 s
  refine seqR ?_
  refine oK _ F5 2 [.o 1, .o 1, .o 1] 0 (fun φ9 => [(17, .agg #[.int .i64 ((List.getD L i5 Fe.z).k), .string ⟨((List.getD L i5 Fe.z).a).toArray⟩, .string ⟨((List.getD L i5 Fe.z).v).toArray⟩]), (16, v5)]) (fun φ9 => [φ8 0, φ8 0, φ8 0]) s (fun φ9 => by kernel_rfl) ?_
  intro φ9 w9 s
  obtain ⟨Ip10, hle10, hsub10, a10, c10, hv10, hcc10, hB10⟩ := row_lend39 (H := [((φ1 0), .cells #[.slice none 0 0] 26), ((φ8 0), .cells #[.int .i64 ((List.getD L i5 Fe.z).k), .string ⟨((List.getD L i5 Fe.z).a).toArray⟩, .string ⟨((List.getD L i5 Fe.z).v).toArray⟩] 39)]) (F := F5) s hi5_1
  subst hv10
  refine callL_rule (H := [(φ1 0, .cells #[.slice none 0 0] 26), (φ8 0, .cells #[.int .i64 ((List.getD L i5 Fe.z).k), .string ⟨((List.getD L i5 Fe.z).a).toArray⟩, .string ⟨((List.getD L i5 Fe.z).v).toArray⟩] 39)] ++ F5) (some 18) s Ip10 hle10 hsub10 (searchE_c (M := (puts (L.take i5))) (x := (List.getD L i5 Fe.z)) hB10 (by have := hi5_2; omega) (asc_puts _)) (by kernel_rfl) ?_
  intro v10 w10 hr10 s
  subst hr10
  refine oKD _ F5 5 [] 0 (fun φ11 => [(8, .bool (decide ((List.getD L i5 Fe.z) ∈ (puts (L.take i5))))), (7, .int .i64 (rk (puts (L.take i5)) (List.getD L i5 Fe.z))), (20, .bool (decide ((List.getD L i5 Fe.z) ∈ (puts (L.take i5))))), (19, .int .i64 (rk (puts (L.take i5)) (List.getD L i5 Fe.z))), (15, .tuple #[.int .i64 (rk (puts (L.take i5)) (List.getD L i5 Fe.z)), .bool (decide ((List.getD L i5 Fe.z) ∈ (puts (L.take i5))))])]) (fun φ11 => []) s (fun φ11 => by kernel_rfl) (by kernel_rfl) ?_
  intro φ11 w11 s
  refine wp_seq ?_
  refine seqR ?_
  refine oKD _ F5 1 [] 0 (fun φ12 => [(21, .bool (decide ((List.getD L i5 Fe.z) ∈ (puts (L.take i5)))))]) (fun φ12 => []) s (fun φ12 => by kernel_rfl) (by kernel_rfl) ?_
  intro φ12 w12 s
  rcases Bool.eq_false_or_eq_true (decide ((List.getD L i5 Fe.z) ∈ (puts (L.take i5)))) with hc13 | hc13
  ·
   rw [hc13]
   refine cond_true_rule (b := true) (by kernel_rfl) rfl ?_
   refine wp_exit ?_
   refine region_rule ?_
   refine oK _ F5 2 [] 0 (fun φ14 => [(11, .int .i64 (IntKind.wrap .i64 (((i5 : Nat) : Int) + ((1 : Nat) : Int)))), (31, .int .i64 (IntKind.wrap .i64 (((i5 : Nat) : Int) + ((1 : Nat) : Int))))]) (fun φ14 => []) s (fun φ14 => by kernel_rfl) ?_
   intro φ14 w14 s
   rw [nat_addI (a := i5) (b := 1) (by have e8 := hi5_0; have e7 := hi5_2; have hq0 := dT9 hc7; have hq1 := dT9 hc13; omega)]
   refine ops_done (by kernel_rfl) ?_
   exact ⟨⟨m5 - 1, (i5 + 1, .slice a10 (List.length (puts (L.take i5))) c10, F5), _, _, _, by have hq0 := dT9 hc7; have hq1 := dT9 hc13; have := hi5_0; omega, rfl, s, (List.Sublist.append (List.Sublist.cons₂ _ (List.Sublist.cons _ List.Sublist.slnil)) (List.Sublist.refl _)), by kernel_rfl, hle4, by have hq0 := dT9 hc7; have hq1 := dT9 hc13; have := hi5_0; show i5 + 1 + (m5 - 1) = L.length; omega, (row39_same (by have hq0 := dT9 hc7; have hq1 := dT9 hc13; have := hi5_0; omega) (dT9 hc13) hi5_1), by rw [puts_take (by have hq0 := dT9 hc7; have hq1 := dT9 hc13; have := hi5_0; omega), ins_mem (dT9 hc13)]; exact hi5_2⟩⟩
  ·
   rw [hc13]
   refine cond_false_rule (b := false) (by kernel_rfl) rfl ?_
   refine wp_skip ?_
   refine wp_seq ?_
   refine seqR ?_
   refine oK _ F5 3 [] 0 (fun φ15 => [(24, .bool ((((List.length (puts (L.take i5))) : Nat) : Int) == ((8 : Nat) : Int))), (23, .int .i64 (((List.length (puts (L.take i5))) : Nat) : Int)), (22, .slice a10 (List.length (puts (L.take i5))) c10)]) (fun φ15 => []) s (fun φ15 => by kernel_rfl) ?_
   intro φ15 w15 s
   rw [nat_eql (a := (List.length (puts (L.take i5)))) (b := 8)]
   refine ops_done (by kernel_rfl) ?_
   rcases Bool.eq_false_or_eq_true (decide ((List.length (puts (L.take i5))) = 8)) with hc16 | hc16
   ·
    rw [hc16]
    refine cond_true_rule (b := true) (by kernel_rfl) rfl ?_
    refine seqR ?_
    refine oKD _ F5 3 [.o 0] 0 (fun φ17 => [(3, .int .i64 8), (25, .agg #[.slice none 0 0])]) (fun φ17 => [(φ1 0)]) s (fun φ17 => by kernel_rfl) (by kernel_rfl) ?_
    intro φ17 w17 s
    refine wp_ret ?_
    refine ret_rule (C := []) _ F5 (.tuple #[.agg #[.slice none 0 0], .int .i64 8]) [.o 0] [(φ1 0)] s trivial (by kernel_rfl) ?_
    exact ⟨_, _, _, rfl, s, (of_full (fullP (by have hq0 := dT9 hc7; have hq1 := dF9 hc13; have hq2 := dT9 hc16; have := hi5_0; omega) (dF9 hc13) (dT9 hc16)))⟩
   ·
    rw [hc16]
    refine cond_false_rule (b := false) (by kernel_rfl) rfl ?_
    refine wp_skip ?_
    refine region_rule ?_
    refine oA _ F5 4 [.o 1, .o 1, .o 1] 1 (fun φ18 => [(29, .slice (some ⟨(φ18 0), 0, none⟩) 1 1), (28, .agg #[.int .i64 ((List.getD L i5 Fe.z).k), .string ⟨((List.getD L i5 Fe.z).a).toArray⟩, .string ⟨((List.getD L i5 Fe.z).v).toArray⟩]), (27, .int .i64 (rk (puts (L.take i5)) (List.getD L i5 Fe.z))), (26, .slice a10 (List.length (puts (L.take i5))) c10)]) (fun φ18 => [(φ1 0, .cells #[.slice none 0 0] 26), (φ8 0, .cells #[.int .i64 ((List.getD L i5 Fe.z).k), .string ⟨((List.getD L i5 Fe.z).a).toArray⟩, .string ⟨((List.getD L i5 Fe.z).v).toArray⟩] 39), (φ18 0, .cells #[.int .i64 ((List.getD L i5 Fe.z).k), .string ⟨((List.getD L i5 Fe.z).a).toArray⟩, .string ⟨((List.getD L i5 Fe.z).v).toArray⟩] 39)]) (fun φ18 => [φ8 0, φ8 0, φ8 0]) s (fun φ18 => by kernel_rfl) ?_
    intro φ18 w18 s
    obtain ⟨I19, le19, hk19, s⟩ := s.freezeAt 2 (φ18 0) (.cells #[.int .i64 ((List.getD L i5 Fe.z).k), .string ⟨((List.getD L i5 Fe.z).a).toArray⟩, .string ⟨((List.getD L i5 Fe.z).v).toArray⟩] 39) ([((φ1 0), .cells #[.slice none 0 0] 26), ((φ8 0), .cells #[.int .i64 ((List.getD L i5 Fe.z).k), .string ⟨((List.getD L i5 Fe.z).a).toArray⟩, .string ⟨((List.getD L i5 Fe.z).v).toArray⟩] 39)] ++ F5) (by kernel_rfl) (by kernel_rfl)
    replace hle4 := leMono le19 hle4
    refine callF_rule (F := F5) (some 30) s (insF_c (x := (List.getD L i5 Fe.z)) hi5_1 rfl (by have := hi5_2; omega) hk19) (by kernel_rfl) ?_
    intro v20 I20 w20 F20 le20 h20 s
    replace h20 : RowH 39 3 v20 (puts (L.take (i5 + 1))).length (fcs (puts (L.take (i5 + 1)))) F20 := row39_ins (by have hq0 := dT9 hc7; have hq1 := dF9 hc13; have hq2 := dF9 hc16; have := hi5_0; omega) (dF9 hc13) h20
    replace hle4 := leMono le20 hle4
    refine oKD _ F20 1 [] 0 (fun φ21 => [(4, v20)]) (fun φ21 => []) s (fun φ21 => by kernel_rfl) (by kernel_rfl) ?_
    intro φ21 w21 s
    refine region_rule ?_
    refine oK _ F20 2 [] 0 (fun φ22 => [(11, .int .i64 (IntKind.wrap .i64 (((i5 : Nat) : Int) + ((1 : Nat) : Int)))), (31, .int .i64 (IntKind.wrap .i64 (((i5 : Nat) : Int) + ((1 : Nat) : Int))))]) (fun φ22 => []) s (fun φ22 => by kernel_rfl) ?_
    intro φ22 w22 s
    rw [nat_addI (a := i5) (b := 1) (by have e8 := hi5_0; have e7 := hi5_2; have hq0 := dT9 hc7; have hq1 := dF9 hc13; have hq2 := dF9 hc16; omega)]
    refine ops_done (by kernel_rfl) ?_
    exact ⟨⟨m5 - 1, (i5 + 1, v20, F20), _, _, _, by have hq0 := dT9 hc7; have hq1 := dF9 hc13; have hq2 := dF9 hc16; have := hi5_0; omega, rfl, s, (List.Sublist.append (List.Sublist.cons₂ _ (List.Sublist.cons _ List.Sublist.slnil)) (List.Sublist.refl _)), by kernel_rfl, hle4, by have hq0 := dT9 hc7; have hq1 := dF9 hc13; have hq2 := dF9 hc16; have := hi5_0; show i5 + 1 + (m5 - 1) = L.length; omega, h20, by have hq0 := dT9 hc7; have hq1 := dF9 hc13; have hq2 := dF9 hc16; have e9 := hi5_2; rw [puts_take (by have := hi5_0; omega), ins_len, if_neg (dF9 hc13)]; omega⟩⟩
 ·
  rw [hc7]
  refine cond_false_rule (b := false) (by kernel_rfl) rfl ?_
  refine wp_exit ?_
  have ei : i5 = L.length := by have hq0 := dF9 hc7; have := hi5_0; omega
  have hr9 := hi5_1
  have hq9 := hi5_2
  rw [ei, List.take_length] at hr9 hq9
  obtain ⟨J23, le23, hk23, s⟩ := freeze_row39 (H := [((φ1 0), .cells #[.slice none 0 0] 26)]) (F := F5) s hr9
  obtain ⟨a23, c23, hv23, -, hk23⟩ := hk23.open
  subst hv23
  refine seqR ?_
  refine oAD [(φ1 0, .cells #[.slice none 0 0] 26)] [] 4 [.o 0] 0 (fun φ24 => [(3, .int .i64 0), (33, .agg #[.slice a23 ((puts L).length) c23]), (32, .slice a23 ((puts L).length) c23)]) (fun φ24 => [(φ1 0, .cells #[.slice a23 ((puts L).length) c23] 26)]) (fun φ24 => [(φ1 0)]) s (fun φ24 => by kernel_rfl) (by kernel_rfl) ?_
  intro φ24 w24 s
  refine wp_ret ?_
  refine ret_rule (C := []) _ [] (.tuple #[.agg #[.slice a23 ((puts L).length) c23], .int .i64 0]) [.o 0] [(φ1 0)] s trivial (by kernel_rfl) ?_
  exact ⟨_, _, _, rfl, s, (of_ok hk23 hq9)⟩

end Go.Proofs.YtcpmjogeafhpnaaDoor
/- A card of any fields. -/
set_option linter.all false
set_option maxRecDepth 100000
namespace Go.Proofs.YtcpmjogeafhpnaaDoor
open Go.RowKit Go.Sep
attribute [local irreducible] Go.wpList Go.Code.wp

theorem eqG_int {P : Program} {w : World} {d : Nat} {t : TypeId} {k k' : Int} (h : P.underlying t = some (.int .i64)) : (Op.equalIn (d + 1) t (.int .i64 k) (.int .i64 k')).run P w = .ok (decide (k = k')) w := by
  unfold Op.equalIn
  simp [run_underlying h]
  rfl
theorem eqG_str {P : Program} {w : World} {d : Nat} {t : TypeId} {a b : List UInt8} (h : P.underlying t = some .string) : (Op.equalIn (d + 1) t (.string ⟨a.toArray⟩) (.string ⟨b.toArray⟩)).run P w = .ok (decide (a = b)) w := by
  rw [run_equalIn_string _ _ _ _ _ h, Tx.lst_toList, Tx.lst_toList, show (a == b) = decide (a = b) by rw [Bool.eq_iff_iff]; simp]
theorem fe_eq_iff {x y : Fe} : x = y ↔ x.k = y.k ∧ x.a = y.a ∧ x.v = y.v := ⟨fun h => by subst h; exact ⟨rfl, rfl, rfl⟩, fun h => fe_ext h.1 h.2.1 h.2.2⟩
theorem eqXe42 {w : World} {d : Nat} {X Y : Fe} : (Op.equalIn (d + 1 + 1) 42 (.agg #[.int .i64 X.k, .string ⟨X.a.toArray⟩, .string ⟨X.v.toArray⟩]) (.agg #[.int .i64 Y.k, .string ⟨Y.a.toArray⟩, .string ⟨Y.v.toArray⟩])).run Tryd.prog w = .ok (decide (X = Y)) w := by
  have p0 : ∀ (w : World) (k : Int) (a b : ByteArray), (part 3 #[Value.int IntKind.i64 k, Value.string a, Value.string b] 0).run Tryd.prog w = .ok (.int .i64 k) w := fun w k a b => by kernel_rfl
  have p1 : ∀ (w : World) (k : Int) (a b : ByteArray), (part 9 #[Value.int IntKind.i64 k, Value.string a, Value.string b] 1).run Tryd.prog w = .ok (.string a) w := fun w k a b => by kernel_rfl
  have p2 : ∀ (w : World) (k : Int) (a b : ByteArray), (part 9 #[Value.int IntKind.i64 k, Value.string a, Value.string b] 2).run Tryd.prog w = .ok (.string b) w := fun w k a b => by kernel_rfl
  have s : ∀ w, (program).run Tryd.prog w = .ok Tryd.prog w := fun w => rfl
  have h : Tryd.prog.stoodInHeld 42 = false := by kernel_rfl
  have hd : decide (X = Y) = (decide (X.k = Y.k) && (decide (X.a = Y.a) && decide (X.v = Y.v))) := by
    rw [← Bool.decide_and, ← Bool.decide_and]; exact decide_eq_decide.2 fe_eq_iff
  rw [hd]
  unfold Op.equalIn
  by_cases h1 : X.k = Y.k <;> by_cases h2 : X.a = Y.a <;> by_cases h3 : X.v = Y.v <;>
    simp [run_underlying Tryd.underlying42, p0, p1, p2, eqG_int Tryd.underlying3, eqG_str Tryd.underlying9, h1, h2, h3]
theorem eqGd42 {w : World} {b : BinOp} {x y : Operand} {X Y : Fe} (hb : b = .eql ∨ b = .neq) : (eqGuard b 42 x y (.agg #[.int .i64 X.k, .string ⟨X.a.toArray⟩, .string ⟨X.v.toArray⟩]) (.agg #[.int .i64 Y.k, .string ⟨Y.a.toArray⟩, .string ⟨Y.v.toArray⟩])).run Tryd.prog w = .ok () w := by
  rcases hb with rfl | rfl <;> kernel_rfl
theorem run_eqlG42 {w : World} {x y : Operand} {X Y : Fe} : (do eqGuard .eql 42 x y (.agg #[.int .i64 X.k, .string ⟨X.a.toArray⟩, .string ⟨X.v.toArray⟩]) (.agg #[.int .i64 Y.k, .string ⟨Y.a.toArray⟩, .string ⟨Y.v.toArray⟩]); binOp .eql 42 (.agg #[.int .i64 X.k, .string ⟨X.a.toArray⟩, .string ⟨X.v.toArray⟩]) (.agg #[.int .i64 Y.k, .string ⟨Y.a.toArray⟩, .string ⟨Y.v.toArray⟩]) : Sem Value).run Tryd.prog w = .ok (.bool (decide (X = Y))) w := by
  rw [Sem.run_bind, eqGd42 (.inl rfl)]
  show (binOp .eql 42 _ _).run Tryd.prog w = _
  have h : (binOp .eql 42 (.agg #[.int .i64 X.k, .string ⟨X.a.toArray⟩, .string ⟨X.v.toArray⟩]) (.agg #[.int .i64 Y.k, .string ⟨Y.a.toArray⟩, .string ⟨Y.v.toArray⟩])).run Tryd.prog w = ((Op.equalIn (9998 + 1 + 1) 42 (.agg #[.int .i64 X.k, .string ⟨X.a.toArray⟩, .string ⟨X.v.toArray⟩]) (.agg #[.int .i64 Y.k, .string ⟨Y.a.toArray⟩, .string ⟨Y.v.toArray⟩])) >>= fun r => pure (.bool r)).run Tryd.prog w := by kernel_rfl
  rw [h, Sem.run_bind, eqXe42]; rfl
theorem eqXe39 {w : World} {d : Nat} {X Y : Fe} : (Op.equalIn (d + 1 + 1) 39 (.agg #[.int .i64 X.k, .string ⟨X.a.toArray⟩, .string ⟨X.v.toArray⟩]) (.agg #[.int .i64 Y.k, .string ⟨Y.a.toArray⟩, .string ⟨Y.v.toArray⟩])).run Tryd.prog w = .ok (decide (X = Y)) w := by
  have p0 : ∀ (w : World) (k : Int) (a b : ByteArray), (part 3 #[Value.int IntKind.i64 k, Value.string a, Value.string b] 0).run Tryd.prog w = .ok (.int .i64 k) w := fun w k a b => by kernel_rfl
  have p1 : ∀ (w : World) (k : Int) (a b : ByteArray), (part 9 #[Value.int IntKind.i64 k, Value.string a, Value.string b] 1).run Tryd.prog w = .ok (.string a) w := fun w k a b => by kernel_rfl
  have p2 : ∀ (w : World) (k : Int) (a b : ByteArray), (part 9 #[Value.int IntKind.i64 k, Value.string a, Value.string b] 2).run Tryd.prog w = .ok (.string b) w := fun w k a b => by kernel_rfl
  have s : ∀ w, (program).run Tryd.prog w = .ok Tryd.prog w := fun w => rfl
  have h : Tryd.prog.stoodInHeld 39 = false := by kernel_rfl
  have hd : decide (X = Y) = (decide (X.k = Y.k) && (decide (X.a = Y.a) && decide (X.v = Y.v))) := by
    rw [← Bool.decide_and, ← Bool.decide_and]; exact decide_eq_decide.2 fe_eq_iff
  rw [hd]
  unfold Op.equalIn
  by_cases h1 : X.k = Y.k <;> by_cases h2 : X.a = Y.a <;> by_cases h3 : X.v = Y.v <;>
    simp [run_underlying Tryd.underlying39, p0, p1, p2, eqG_int Tryd.underlying3, eqG_str Tryd.underlying9, h1, h2, h3]
theorem eqGd39 {w : World} {b : BinOp} {x y : Operand} {X Y : Fe} (hb : b = .eql ∨ b = .neq) : (eqGuard b 39 x y (.agg #[.int .i64 X.k, .string ⟨X.a.toArray⟩, .string ⟨X.v.toArray⟩]) (.agg #[.int .i64 Y.k, .string ⟨Y.a.toArray⟩, .string ⟨Y.v.toArray⟩])).run Tryd.prog w = .ok () w := by
  rcases hb with rfl | rfl <;> kernel_rfl
theorem run_neqG39 {w : World} {x y : Operand} {X Y : Fe} : (do eqGuard .neq 39 x y (.agg #[.int .i64 X.k, .string ⟨X.a.toArray⟩, .string ⟨X.v.toArray⟩]) (.agg #[.int .i64 Y.k, .string ⟨Y.a.toArray⟩, .string ⟨Y.v.toArray⟩]); binOp .neq 39 (.agg #[.int .i64 X.k, .string ⟨X.a.toArray⟩, .string ⟨X.v.toArray⟩]) (.agg #[.int .i64 Y.k, .string ⟨Y.a.toArray⟩, .string ⟨Y.v.toArray⟩]) : Sem Value).run Tryd.prog w = .ok (.bool (!(decide (X = Y)))) w := by
  rw [Sem.run_bind, eqGd39 (.inr rfl)]
  show (binOp .neq 39 _ _).run Tryd.prog w = _
  have h : (binOp .neq 39 (.agg #[.int .i64 X.k, .string ⟨X.a.toArray⟩, .string ⟨X.v.toArray⟩]) (.agg #[.int .i64 Y.k, .string ⟨Y.a.toArray⟩, .string ⟨Y.v.toArray⟩])).run Tryd.prog w = ((Op.equalIn (9998 + 1 + 1) 39 (.agg #[.int .i64 X.k, .string ⟨X.a.toArray⟩, .string ⟨X.v.toArray⟩]) (.agg #[.int .i64 Y.k, .string ⟨Y.a.toArray⟩, .string ⟨Y.v.toArray⟩])) >>= fun r => pure (.bool (!r))).run Tryd.prog w := by kernel_rfl
  rw [h, Sem.run_bind, eqXe39]; rfl

/-- nothing longer than this -/
def shortL (L : List Fe) : Prop := ∀ i, i < L.length → (L.getD i Fe.z).a.length ≤ 1000 ∧ (L.getD i Fe.z).v.length ≤ 1000
theorem rightX_c {I : IM} {x : Fe} (hN : Tx.NmT I) (hT : Tx.U8 I) (h : x.a.length ≤ 1000 ∧ x.v.length ≤ 1000) : Fun Tryd.prog 22 #[.agg #[.int .i64 x.k, .string ⟨(x.a).toArray⟩, .string ⟨(x.v).toArray⟩]] I (fun v J => v = .int .i64 ((rtFe x : Nat) : Int)) :=
  Tx.rightG_c (z := x.k) (A := x.a) (B := x.v) (by omega) (by omega) hN hT
/-- the first one's error -/
def eRt : List Fe → Nat
  | [] => 0
  | x :: L => if rtFe x = 0 then eRt L else rtFe x
theorem eRt_append : ∀ {L M : List Fe}, eRt L = 0 → eRt (L ++ M) = eRt M
  | [], _, _ => rfl
  | x :: L, M, h => by
    unfold eRt at h
    split at h
    · rename_i q
      have := eRt_append (L := L) (M := M) h
      show (if rtFe x = 0 then eRt (L ++ M) else rtFe x) = eRt M; rw [if_pos q]; exact this
    · rename_i q; exact absurd h q
theorem eRt_next {L : List Fe} {i : Nat} (hi : i < L.length) (h : eRt (L.take i) = 0) (hx : rtFe (L.getD i Fe.z) = 0) : eRt (L.take (i + 1)) = 0 := by
  rw [fe_take hi, eRt_append h]; unfold eRt; rw [if_pos hx]; rfl
theorem eRt_at {L : List Fe} {i : Nat} (hi : i < L.length) (h : eRt (L.take i) = 0) (hx : rtFe (L.getD i Fe.z) ≠ 0) : eRt L = rtFe (L.getD i Fe.z) := by
  conv => lhs; rw [← List.take_append_drop i L]
  rw [eRt_append h, List.drop_eq_getElem_cons hi]
  have e : L[i] = L.getD i Fe.z := by simp [hi]
  rw [e]; unfold eRt; rw [if_neg hx]
theorem eRt_of : ∀ {L : List Fe}, (∀ x ∈ L, rtFe x = 0) → eRt L = 0
  | [], _ => rfl
  | y :: L, h => by unfold eRt; rw [if_pos (h y (by simp))]; exact eRt_of fun x hx => h x (by simp [hx])
def mkF (L : List Fe) : List Fe := if eRt L = 0 then ofF L else []
def mkE (L : List Fe) : Nat := if eRt L = 0 then ofE L else eRt L
theorem rt0 {n : Nat} (h : decide (n ≠ 0) = false) : n = 0 := Decidable.not_not.1 (dF9 h)
theorem rt1 {n : Nat} (h : decide (n ≠ 0) = true) : n ≠ 0 := dT9 h
theorem mk_err {J : IM} {L : List Fe} {i : Nat} (hi : i < L.length) (h : eRt (L.take i) = 0) (hx : rtFe (L.getD i Fe.z) ≠ 0) : ∃ a c, (.tuple #[.agg #[.slice none 0 0], .int .i64 ((rtFe (L.getD i Fe.z) : Nat) : Int)] : Value) = .tuple #[.agg #[.slice a (mkF L).length c], .int .i64 ((mkE L : Nat) : Int)] ∧ FSl J (mkF L) (.slice a (mkF L).length c) := by
  have e := eRt_at hi h hx
  have hne : ¬ eRt L = 0 := by rw [e]; exact hx
  have e1 : mkF L = [] := if_neg hne
  have e2 : mkE L = rtFe (L.getD i Fe.z) := (if_neg hne).trans e
  rw [e1, e2]; exact ⟨none, 0, rfl, fsl_nil J⟩
theorem mk_ok {J : IM} {L : List Fe} {a : Option Addr} {c : Nat} (hf : FSl J (ofF L) (.slice a (ofF L).length c)) (h : eRt L = 0) : ∃ a' c', (.tuple #[.agg #[.slice a (ofF L).length c], .int .i64 ((ofE L : Nat) : Int)] : Value) = .tuple #[.agg #[.slice a' (mkF L).length c'], .int .i64 ((mkE L : Nat) : Int)] ∧ FSl J (mkF L) (.slice a' (mkF L).length c') := by
  have e1 : mkF L = ofF L := if_pos h
  have e2 : mkE L = ofE L := if_pos h
  rw [e1, e2]; exact ⟨a, c, rfl, hf⟩

set_option maxHeartbeats 4000000 in
theorem make_c {I : IM} {L : List Fe} {a0 : Option Addr} {c0 : Nat} (h0 : FSl I L (.slice a0 L.length c0)) (hl : L.length ≤ 1000) (hN : Tx.NmT I) (hT : Tx.U8 I) (hsh : shortL L) : Fun Tryd.prog 15 #[.slice a0 L.length c0] I (fun v J => ∃ a c, v = .tuple #[.agg #[.slice a (mkF L).length c], .int .i64 ((mkE L : Nat) : Int)] ∧ FSl J (mkF L) (.slice a (mkF L).length c)) := by
 refine enter_rule 24 [(0, .slice a0 L.length c0)] Tryd.func15 rfl (by kernel_rfl) ?_
 intro w s
 refine seqR ?_
 refine oAD [] [] 2 [] 1 (fun φ1 => [(3, .int .i64 0), (2, pB (φ1 0))]) (fun φ1 => [(φ1 0, .cells #[.slice none 0 0] 26)]) (fun φ1 => []) s (fun φ1 => by kernel_rfl) (by kernel_rfl) ?_
 intro φ1 w1 s
 refine wp_seq ?_
 refine seqR ?_
 refine oKD _ [] 3 [] 0 (fun φ2 => [(9, .int .i64 0), (8, .int .i64 L.length), (7, .slice a0 L.length c0)]) (fun φ2 => []) s (fun φ2 => by kernel_rfl) (by kernel_rfl) ?_
 intro φ2 w2 s
 refine wp_block ?_
 have hle3 := IM.Le.refl I
 refine loop_rule (fun (x : Nat) => [(0, .slice a0 L.length c0), (2, pB (φ1 0)), (3, .int .i64 0), (7, .slice a0 L.length c0), (8, .int .i64 L.length), (9, .int .i64 x)]) (fun (x : Nat) => [(φ1 0, .cells #[.slice none 0 0] 26)]) (fun m (x : Nat) J => IM.Le I J ∧ x + m = L.length ∧ eRt (L.take x) = 0) (L.length) 0 s (by kernel_rfl) (List.Sublist.cons₂ _ List.Sublist.slnil) ⟨IM.Le.refl _, Nat.zero_add _, rfl⟩ ?_
 rintro m4 i4 I4 w4 ev4 s ⟨le4, hi4_0, hi4_1⟩
 try dsimp only at s hi4_0 hi4_1 ⊢
 replace h0 := FSl.mono le4 h0
 replace hN := Tx.NmT.mono le4 hN
 replace hT := Tx.U8.mono le4 hT
 replace hle3 := leMono le4 hle3
 refine seqR ?_
 refine oK [(φ1 0, .cells #[.slice none 0 0] 26)] [] 1 [] 0 (fun φ5 => [(10, .bool (decide (((i4 : Nat) : Int) < ((L.length : Nat) : Int))))]) (fun φ5 => []) s (fun φ5 => by kernel_rfl) ?_
 intro φ5 w5 s
 rw [nat_lss (a := i4) (b := L.length)]
 refine ops_done (by kernel_rfl) ?_
 refine wp_seq ?_
 rcases Bool.eq_false_or_eq_true (decide (i4 < L.length)) with hc6 | hc6
 ·
  rw [hc6]
  refine cond_true_rule (b := true) (by kernel_rfl) rfl ?_
  refine wp_skip ?_
  refine wp_seq ?_
  refine wp_block ?_
  refine seqR ?_
  refine sem_rule (Instr.indexAt 22 (.slice a0 L.length c0) (.int .i64 i4)) (some 11) (.pointer (pAt a0 (i4 * 3))) (by kernel_rfl) (fsl_idx22 h0 (by have e8 := hi4_0; have hq0 := dT9 hc6; omega)) ?_
  refine sem_rule (Instr.loadAt 39 (.pointer (pAt a0 (i4 * 3)))) (some 12) (.agg #[.int .i64 ((List.getD L i4 Fe.z).k), .string ⟨((List.getD L i4 Fe.z).a).toArray⟩, .string ⟨((List.getD L i4 Fe.z).v).toArray⟩]) (by kernel_rfl) (fsl_ld39 s.sub h0 (by have e8 := hi4_0; have hq0 := dT9 hc6; omega)) ?_
  refine oAD _ [] 2 [.o 1, .o 1, .o 1] 1 (fun φ7 => [(5, pB (φ7 0))]) (fun φ7 => [(φ1 0, .cells #[.slice none 0 0] 26), (φ7 0, .cells #[.int .i64 ((List.getD L i4 Fe.z).k), .string ⟨((List.getD L i4 Fe.z).a).toArray⟩, .string ⟨((List.getD L i4 Fe.z).v).toArray⟩] 39)]) (fun φ7 => [φ7 0, φ7 0, φ7 0]) s (fun φ7 => by kernel_rfl) (by kernel_rfl) ?_
  intro φ7 w7 s
  refine seqR ?_
  refine oK _ [] 1 [.o 1, .o 1, .o 1] 0 (fun φ8 => [(13, .agg #[.int .i64 ((List.getD L i4 Fe.z).k), .string ⟨((List.getD L i4 Fe.z).a).toArray⟩, .string ⟨((List.getD L i4 Fe.z).v).toArray⟩])]) (fun φ8 => [φ7 0, φ7 0, φ7 0]) s (fun φ8 => by kernel_rfl) ?_
  intro φ8 w8 s
  refine call_rule (some 14) s (rightX_c (x := (List.getD L i4 Fe.z)) hN hT (hsh i4 (by have hq0 := dT9 hc6; omega))) (by kernel_rfl) ?_
  intro v9 I9 w9 le9 h9 s
  replace h0 := FSl.mono le9 h0
  replace hle3 := leMono le9 hle3
  obtain rfl := h9
  refine oKD _ [] 1 [] 0 (fun φ10 => [(6, .int .i64 (rtFe (List.getD L i4 Fe.z)))]) (fun φ10 => []) s (fun φ10 => by kernel_rfl) (by kernel_rfl) ?_
  intro φ10 w10 s
  refine seqR ?_
  refine oK _ [] 2 [] 0 (fun φ11 => [(16, .bool (((rtFe (List.getD L i4 Fe.z) : Nat) : Int) != ((0 : Nat) : Int))), (15, .int .i64 (rtFe (List.getD L i4 Fe.z)))]) (fun φ11 => []) s (fun φ11 => by kernel_rfl) ?_
  intro φ11 w11 s
  rw [nat_neq (a := (rtFe (List.getD L i4 Fe.z))) (b := 0)]
  refine ops_done (by kernel_rfl) ?_
  rcases Bool.eq_false_or_eq_true (decide ((rtFe (List.getD L i4 Fe.z)) ≠ 0)) with hc12 | hc12
  ·
   rw [hc12]
   refine cond_true_rule (b := true) (by kernel_rfl) rfl ?_
   refine seqR ?_
   refine oKD _ [] 4 [.o 0] 0 (fun φ13 => [(3, .int .i64 (rtFe (List.getD L i4 Fe.z))), (18, .int .i64 (rtFe (List.getD L i4 Fe.z))), (17, .agg #[.slice none 0 0])]) (fun φ13 => [(φ1 0)]) s (fun φ13 => by kernel_rfl) (by kernel_rfl) ?_
   intro φ13 w13 s
   refine wp_ret ?_
   refine ret_rule (C := []) _ [] (.tuple #[.agg #[.slice none 0 0], .int .i64 (rtFe (List.getD L i4 Fe.z))]) [.o 0] [(φ1 0)] s trivial (by kernel_rfl) ?_
   exact ⟨_, _, _, rfl, s, (mk_err (by have hq0 := dT9 hc6; have hq1 := dT9 hc12; have := hi4_0; omega) hi4_1 (rt1 hc12))⟩
  ·
   rw [hc12]
   refine cond_false_rule (b := false) (by kernel_rfl) rfl ?_
   refine wp_skip ?_
   refine region_rule ?_
   refine oK _ [] 2 [] 0 (fun φ14 => [(9, .int .i64 (IntKind.wrap .i64 (((i4 : Nat) : Int) + ((1 : Nat) : Int)))), (19, .int .i64 (IntKind.wrap .i64 (((i4 : Nat) : Int) + ((1 : Nat) : Int))))]) (fun φ14 => []) s (fun φ14 => by kernel_rfl) ?_
   intro φ14 w14 s
   rw [nat_addI (a := i4) (b := 1) (by have e8 := hi4_0; have hq0 := dT9 hc6; have hq1 := dF9 hc12; omega)]
   refine ops_done (by kernel_rfl) ?_
   exact ⟨⟨m4 - 1, i4 + 1, _, _, _, by have hq0 := dT9 hc6; have hq1 := dF9 hc12; have := hi4_0; omega, rfl, s, (List.Sublist.cons₂ _ (List.Sublist.cons _ List.Sublist.slnil)), by kernel_rfl, hle3, by have hq0 := dT9 hc6; have hq1 := dF9 hc12; have := hi4_0; show i4 + 1 + (m4 - 1) = L.length; omega, eRt_next (by have hq0 := dT9 hc6; have hq1 := dF9 hc12; have := hi4_0; omega) hi4_1 (rt0 hc12)⟩⟩
 ·
  rw [hc6]
  refine cond_false_rule (b := false) (by kernel_rfl) rfl ?_
  refine wp_exit ?_
  refine seqR ?_
  refine oK _ [] 1 [] 0 (fun φ15 => [(20, .slice a0 L.length c0)]) (fun φ15 => []) s (fun φ15 => by kernel_rfl) ?_
  intro φ15 w15 s
  refine call_rule (some 21) s (of_c h0 hl) (by kernel_rfl) ?_
  intro v16 I16 w16 le16 h16 s
  obtain ⟨a16, c16, rfl, h16_0⟩ := h16
  refine oAD _ [] 4 [.o 0] 0 (fun φ17 => [(3, .int .i64 (ofE L)), (23, .int .i64 (ofE L)), (22, .agg #[.slice a16 ((ofF L).length) c16])]) (fun φ17 => [(φ1 0, .cells #[.slice a16 ((ofF L).length) c16] 26)]) (fun φ17 => [(φ1 0)]) s (fun φ17 => by kernel_rfl) (by kernel_rfl) ?_
  intro φ17 w17 s
  refine wp_ret ?_
  refine ret_rule (C := []) _ [] (.tuple #[.agg #[.slice a16 ((ofF L).length) c16], .int .i64 (ofE L)]) [.o 0] [(φ1 0)] s trivial (by kernel_rfl) ?_
  exact ⟨_, _, _, rfl, s, (mk_ok h16_0 (by have ei : i4 = L.length := (by have hq0 := dF9 hc6; have := hi4_0; omega); have h9 := hi4_1; rw [ei, List.take_length] at h9; exact h9))⟩

end Go.Proofs.YtcpmjogeafhpnaaDoor
