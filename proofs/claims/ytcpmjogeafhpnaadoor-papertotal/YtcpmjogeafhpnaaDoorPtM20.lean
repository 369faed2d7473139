/- The card of the example. -/
import Derived.Test.YtcpmjogeafhpnaaDoorPtM19
import Derived.Test.YtcpmjogeafhpnaaDoorRows
import Derived.ProofKit
import Derived.LaidMore
import Derived.OpenShut
import Derived.Lay
import Derived.Stop.Joined
import Derived.Lib.LaidU8T
import Derived.Test.YtcpmjogeafhpnaaDoorPtM12
set_option linter.all false
set_option maxRecDepth 100000
namespace Go.Proofs.YtcpmjogeafhpnaaDoor
open Go.RowKit Go.Sep
attribute [local irreducible] Go.wpList Go.Code.wp

theorem src_fsl {I : IM} {w : World} (hs : I.Sub w) {x : Fe} {a : Option Addr} {c : Nat} (h : FSl I [x] (.slice a 1 c)) : Src Tryd.prog 3 22 (.slice a 1 c) 1 (fc x) w := by
  obtain ⟨a', c', hv, hc, hr⟩ := h
  cases hv
  obtain ⟨b, o, cs, T, fr, rfl, h2, h3, h4, h5⟩ := hr 0 x rfl
  refine Src.ofSlice w under22s ⟨b, o, none⟩ 1 c (fc x) rfl (fun j u hu => ?_) (fun u hu => ?_)
  · rw [addr_addO, run_cell (a := ⟨b, o + j, none⟩) (hs _ _ h2) rfl rfl]
    match j with
    | 0 => simp only [fc, List.getElem?_cons_zero, Option.some.injEq] at hu; subst hu; exact h3
    | 1 => simp only [fc, List.getElem?_cons_succ, List.getElem?_cons_zero, Option.some.injEq] at hu; subst hu; exact h4
    | 2 => simp only [fc, List.getElem?_cons_succ, List.getElem?_cons_zero, Option.some.injEq] at hu; subst hu; exact h5
    | j + 3 => simp [fc] at hu
  · simp only [fc, List.mem_cons, List.not_mem_nil, or_false] at hu
    rcases hu with rfl | rfl | rfl <;> rfl
theorem fsl_rb {I : IM} {k : Nat} (h : I k = some (.cells #[.int .i64 1, .string ⟨#[]⟩, .string ⟨#[65, 110, 110]⟩] 39)) : FSl I [x0] (.slice (some ⟨k, 0, none⟩) 1 1) := by
  refine ⟨some ⟨k, 0, none⟩, 1, rfl, Nat.le_refl _, fun j x hj => ?_⟩
  match j with
  | 0 => simp only [List.getElem?_cons_zero, Option.some.injEq] at hj; subst hj; exact ⟨k, 0, _, 39, (0, 0), rfl, h, rfl, rfl, rfl⟩
  | j + 1 => simp at hj
theorem fsl_addr {I : IM} {x : Fe} {a : Option Addr} {c : Nat} (h : FSl I [x] (.slice a 1 c)) : ∃ b o, a = some ⟨b, o, none⟩ := by
  obtain ⟨a', c', hv, hc, hr⟩ := h
  cases hv
  obtain ⟨b, o, cs, T, fr, rfl, h2⟩ := hr 0 x rfl
  exact ⟨b, o, rfl⟩
theorem row_one39 {v : Value} {F : List OB} (h : RowH 39 3 v (0 + 1) ([] ++ fc x0) F) : RowH 39 3 v 1 (fcs [x0]) F := h

theorem row_new39 (b : Nat) : RowH 39 3 (.slice (some ⟨b, 0, none⟩) 0 0) 0 [] [(b, .cells #[] 39)] := ⟨rfl, .inr ⟨b, 0, #[], rfl, rfl, Nat.le_refl _, by decide, rfl, rfl⟩⟩

set_option maxHeartbeats 1000000 in
theorem search_c {I : IM} : Fun Tryd.prog 97 #[.slice none 0 0, .agg #[.int .i64 1, .string ⟨#[]⟩, .string ⟨#[65, 110, 110]⟩], .func (.func 72) #[] #[]] I (fun v J => v = .tuple #[.int .i64 0, .bool false]) := by
  refine enter_rule 49 [(0, .slice none 0 0), (1, .agg #[.int .i64 1, .string ⟨#[]⟩, .string ⟨#[65, 110, 110]⟩]), (2, .func (.func 72) #[] #[])] Tryd.func97 rfl (by kernel_rfl) ?_
  intro w s
  refine wp_seq ?_
  refine region_rule ?_
  refine ops_rule (C := []) [] [] 3 [] 1 (fun φ1 => [(7, .bool false), (6, .int .i64 0), (4, .pointer (some ⟨(φ1 0), 0, none⟩))]) (fun φ1 => [((φ1 0), .cells #[.int .i64 1, .string ⟨#[]⟩, .string ⟨#[65, 110, 110]⟩] 39)]) (fun φ1 => []) s trivial (fun φ1 => by kernel_rfl) ?_
  intro φ1 w1 s
  refine ops_done (by kernel_rfl) ?_
  refine wp_seq ?_
  refine region_rule ?_
  refine ops_rule (C := []) [((φ1 0), .cells #[.int .i64 1, .string ⟨#[]⟩, .string ⟨#[65, 110, 110]⟩] 39)] [] 3 [] 0 (fun φ2 => [(8, .int .i64 0), (13, .int .i64 0), (12, .slice none 0 0)]) (fun φ2 => [((φ1 0), .cells #[.int .i64 1, .string ⟨#[]⟩, .string ⟨#[65, 110, 110]⟩] 39)]) (fun φ2 => []) s trivial (fun φ2 => by kernel_rfl) ?_
  intro φ2 w2 s
  refine ops_done (by kernel_rfl) ?_
  refine wp_seq ?_
  refine region_rule ?_
  refine ops_rule (C := []) [((φ1 0), .cells #[.int .i64 1, .string ⟨#[]⟩, .string ⟨#[65, 110, 110]⟩] 39)] [] 3 [] 0 (fun φ3 => [(10, .int .i64 0), (9, .int .i64 0), (14, .int .i64 0)]) (fun φ3 => [((φ1 0), .cells #[.int .i64 1, .string ⟨#[]⟩, .string ⟨#[65, 110, 110]⟩] 39)]) (fun φ3 => []) s trivial (fun φ3 => by kernel_rfl) ?_
  intro φ3 w3 s
  refine ops_done (by kernel_rfl) ?_
  refine wp_seq ?_
  refine wp_block ?_
  refine Go.wp_loop_rounds 1 ?_
  refine rounds_step (n := 0) ?_
  refine wp_seq ?_
  refine wp_seq ?_
  refine region_rule ?_
  refine ops_rule (C := []) [((φ1 0), .cells #[.int .i64 1, .string ⟨#[]⟩, .string ⟨#[65, 110, 110]⟩] 39)] [] 3 [] 0 (fun φ4 => [(17, .bool false), (16, .int .i64 0), (15, .int .i64 0)]) (fun φ4 => [((φ1 0), .cells #[.int .i64 1, .string ⟨#[]⟩, .string ⟨#[65, 110, 110]⟩] 39)]) (fun φ4 => []) s trivial (fun φ4 => by kernel_rfl) ?_
  intro φ4 w4 s
  refine ops_done (by kernel_rfl) ?_
  refine cond_false_rule (b := false) (by kernel_rfl) rfl ?_
  refine wp_exit ?_
  refine wp_seq ?_
  refine draw_rule (C := []) ⟨(fun φ5 xs5 => [.look 0 [] [], .look 0 [] [], .look 0 [] [], .look 0 [] [], .look 0 [] [], .skip, .skip, .skip, .skip, .skip, .skip, .skip, .skip, .look 0 [] [], .look 0 [] [], .look 0 [] []]), (fun φ5 xs5 => [.int .i64 0, .int .i64 0, .int .i64 0, .bool false, .bool false, undef, undef, undef, undef, undef, undef, undef, undef, .bool false, .int .i64 0, .bool false]), (fun φ5 xs5 => [[((φ1 0), .cells #[.int .i64 1, .string ⟨#[]⟩, .string ⟨#[65, 110, 110]⟩] 39)]]), (fun φ5 xs5 => [[default, default, default, default, default, default, default, default, default, default, default, default, default, default, default, default]]), [], [1, 1, 1, 1, 1, 0, 0, 0, 0, 0, 0, 0, 0, 1, 1, 1]⟩ (fun j => ([MP.any, MP.any, MP.any, MP.any, MP.any, MP.any, MP.any, MP.any, MP.any, MP.any, MP.any, MP.any, MP.any, MP.any, MP.any, MP.any] : List MP).getD j MP.any) [] [] [] (fun φ5 xs5 => []) (fun φ5 xs5 => [(35, .int .i64 0), (36, .int .i64 0), (37, .int .i64 0), (38, .bool false), (39, .bool false), (40, undef), (41, undef), (42, undef), (43, undef), (44, undef), (45, undef), (46, undef), (47, undef), (48, .bool false), (6, .int .i64 0), (7, .bool false)]) (fun φ5 xs5 => [((φ1 0), .cells #[.int .i64 1, .string ⟨#[]⟩, .string ⟨#[65, 110, 110]⟩] 39)]) s trivial (by kernel_rfl) (by kernel_rfl) (fun _ _ => by kernel_rfl) (fun _ _ => by kernel_rfl) ⟨fun _ _ => by kernel_rfl, fun _ _ => by kernel_rfl, fun _ _ => by kernel_rfl, fun _ _ => by kernel_rfl⟩ (fun _ _ _ => by kernel_rfl) (fun _ _ => by kernel_rfl) (fun _ _ => by kernel_rfl) (fun _ _ => by kernel_rfl) (fun _ _ => by kernel_rfl) (fun _ _ => by kernel_rfl) trivial trivial (by kernel_rfl) trivial ?k5
  case k5 =>
    rintro φ5 xs5 I5 w5 le5 s 
    refine wp_ret ?_
    refine ret_rule (C := []) [((φ1 0), .cells #[.int .i64 1, .string ⟨#[]⟩, .string ⟨#[65, 110, 110]⟩] 39)] [] (.tuple #[.int .i64 0, .bool false]) [] [] s trivial (by kernel_rfl) ?_
    exact ⟨_, _, _, rfl, s, rfl⟩

theorem semlem4 {w : World} : (Instr.sliceAt 22 (.slice none 0 0) (some (.int .i64 0)) none none).run Tryd.prog w = .ok (.slice none 0 0) w := by kernel_rfl
set_option maxHeartbeats 1000000 in
theorem insert_c {I : IM} {a0 : Option Addr} {c0 : Nat} (h0 : FSl I [x0] (.slice a0 1 c0)) : Fun Tryd.prog 98 #[.slice none 0 0, .int .i64 0, .slice a0 1 c0] I (fun v J => ∃ a c, v = .slice a 1 c ∧ FSl J [x0] (.slice a 1 c)) := by
  refine enter_rule 95 [(0, .slice none 0 0), (1, .int .i64 0), (2, .slice a0 1 c0)] Tryd.func98 rfl (by kernel_rfl) ?_
  intro w s
  refine wp_seq ?_
  refine region_rule ?_
  refine ops_rule (C := []) [] [] 1 [] 0 (fun φ1 => [(6, .slice none 0 0)]) (fun φ1 => []) (fun φ1 => []) s trivial (fun φ1 => by kernel_rfl) ?_
  intro φ1 w1 s
  refine ops_done (by kernel_rfl) ?_
  refine wp_seq ?_
  refine region_rule ?_
  refine ops_rule (C := []) [] [] 2 [] 0 (fun φ2 => [(11, .int .i64 0), (10, .slice none 0 0)]) (fun φ2 => []) (fun φ2 => []) s trivial (fun φ2 => by kernel_rfl) ?_
  intro φ2 w2 s
  refine sem_rule (Instr.sliceAt 22 (.slice none 0 0) (some (.int .i64 0)) none none) (some 12) (.slice none 0 0) (by kernel_rfl) (semlem4) ?_
  refine ops_done (by kernel_rfl) ?_
  refine wp_seq ?_
  refine region_rule ?_
  refine ops_rule (C := []) [] [] 3 [] 0 (fun φ3 => [(7, .int .i64 1), (14, .int .i64 1), (13, .slice a0 1 c0)]) (fun φ3 => []) (fun φ3 => []) s trivial (fun φ3 => by kernel_rfl) ?_
  intro φ3 w3 s
  refine ops_done (by kernel_rfl) ?_
  refine wp_seq ?_
  refine wp_seq ?_
  refine region_rule ?_
  refine ops_rule (C := []) [] [] 2 [] 0 (fun φ4 => [(16, .bool false), (15, .int .i64 1)]) (fun φ4 => []) (fun φ4 => []) s trivial (fun φ4 => by kernel_rfl) ?_
  intro φ4 w4 s
  refine ops_done (by kernel_rfl) ?_
  refine cond_false_rule (b := false) (by kernel_rfl) rfl ?_
  refine wp_skip ?_
  refine wp_seq ?_
  refine region_rule ?_
  refine ops_rule (C := []) [] [] 3 [] 0 (fun φ5 => [(8, .int .i64 0), (19, .int .i64 0), (18, .slice none 0 0)]) (fun φ5 => []) (fun φ5 => []) s trivial (fun φ5 => by kernel_rfl) ?_
  intro φ5 w5 s
  refine ops_done (by kernel_rfl) ?_
  refine wp_seq ?_
  refine wp_seq ?_
  refine region_rule ?_
  refine ops_rule (C := []) [] [] 3 [] 0 (fun φ6 => [(22, .bool true), (21, .int .i64 0), (20, .int .i64 0)]) (fun φ6 => []) (fun φ6 => []) s trivial (fun φ6 => by kernel_rfl) ?_
  intro φ6 w6 s
  refine ops_done (by kernel_rfl) ?_
  refine cond_true_rule (b := true) (by kernel_rfl) rfl ?_
  refine wp_seq ?_
  refine region_rule ?_
  refine ops_rule (C := []) [] [] 2 [] 0 (fun φ7 => [(24, .slice a0 1 c0), (23, .slice none 0 0)]) (fun φ7 => []) (fun φ7 => []) s trivial (fun φ7 => by kernel_rfl) ?_
  intro φ7 w7 s
  refine append_rule (H := []) (F := []) 22 22 39 Tryd.t39 (.agg #[.int .i64 0, .string ⟨#[]⟩, .string ⟨#[]⟩]) 3 40 (some 25) s Tryd.underlying22 (by kernel_rfl) (by kernel_rfl) (by kernel_rfl) (by kernel_rfl) (by kernel_rfl) (by decide) (RowH.nil 39 3) (src_fsl s.sub h0) (by simp only [maxLen]; omega) (by omega) (by kernel_rfl) ?_
  intro v8 w8 F8 s h8
  obtain ⟨J8, le8, hk8, s⟩ := freeze_row39 (H := []) (F := F8) s (row_one39 h8)
  obtain ⟨a8, c8, hv8, -, hk8⟩ := hk8.open
  subst hv8
  replace hk8 : FSl J8 [x0] (.slice a8 1 c8) := hk8
  replace h0 := FSl.mono le8 h0
  refine ops_rule (C := []) [] [] 1 [] 0 (fun φ9 => [(6, .slice a8 1 c8)]) (fun φ9 => []) (fun φ9 => []) s trivial (fun φ9 => by kernel_rfl) ?_
  intro φ9 w9 s
  refine ops_done (by kernel_rfl) ?_
  refine wp_ret ?_
  refine ret_rule (C := []) [] [] (.slice a8 1 c8) [] [] s trivial (by kernel_rfl) ?_
  exact ⟨_, _, _, rfl, s, ⟨_, _, rfl, hk8⟩⟩

theorem semlem5 {w : World} {b0 c0 o0 : Nat} : (binOp .eql 22 (.slice (some ⟨b0, o0, none⟩) 1 c0) (.slice none 0 0)).run Tryd.prog w = .ok (.bool false) w := by kernel_rfl
set_option maxHeartbeats 1000000 in
theorem cloneF1_c {I : IM} {a0 : Option Addr} {c0 : Nat} (h0 : FSl I [x0] (.slice a0 1 c0)) : Fun Tryd.prog 59 #[.slice a0 1 c0] I (fun v J => ∃ a c, v = .slice a 1 c ∧ FSl J [x0] (.slice a 1 c)) := by
  obtain ⟨b0, o0, rfl⟩ := fsl_addr h0
  refine enter_rule 8 [(0, .slice (some ⟨b0, o0, none⟩) 1 c0)] Tryd.func59 rfl (by kernel_rfl) ?_
  intro w s
  refine wp_seq ?_
  refine region_rule ?_
  refine ops_rule (C := []) [] [] 1 [] 0 (fun φ1 => [(2, .slice none 0 0)]) (fun φ1 => []) (fun φ1 => []) s trivial (fun φ1 => by kernel_rfl) ?_
  intro φ1 w1 s
  refine ops_done (by kernel_rfl) ?_
  refine wp_seq ?_
  refine wp_seq ?_
  refine region_rule ?_
  refine ops_rule (C := []) [] [] 1 [] 0 (fun φ2 => [(3, .slice (some ⟨b0, o0, none⟩) 1 c0)]) (fun φ2 => []) (fun φ2 => []) s trivial (fun φ2 => by kernel_rfl) ?_
  intro φ2 w2 s
  refine sem_rule (binOp .eql 22 (.slice (some ⟨b0, o0, none⟩) 1 c0) (.slice none 0 0)) (some 4) (.bool false) (by kernel_rfl) (semlem5) ?_
  refine ops_done (by kernel_rfl) ?_
  refine cond_false_rule (b := false) (by kernel_rfl) rfl ?_
  refine wp_skip ?_
  refine wp_seq ?_
  refine region_rule ?_
  refine ops_rule (C := []) [] [] 2 [] 1 (fun φ3 => [(6, .slice (some ⟨b0, o0, none⟩) 1 c0), (5, .slice (some ⟨(φ3 0), 0, none⟩) 0 0)]) (fun φ3 => [((φ3 0), .cells #[] 39)]) (fun φ3 => []) s trivial (fun φ3 => by kernel_rfl) ?_
  intro φ3 w3 s
  refine append_rule (H := []) (F := [((φ3 0), .cells #[] 39)]) 22 22 39 Tryd.t39 (.agg #[.int .i64 0, .string ⟨#[]⟩, .string ⟨#[]⟩]) 3 40 (some 7) s Tryd.underlying22 (by kernel_rfl) (by kernel_rfl) (by kernel_rfl) (by kernel_rfl) (by kernel_rfl) (by decide) (row_new39 (φ3 0)) (src_fsl s.sub h0) (by simp only [maxLen]; omega) (by omega) (by kernel_rfl) ?_
  intro v4 w4 F4 s h4
  obtain ⟨J4, le4, hk4, s⟩ := freeze_row39 (H := []) (F := F4) s (row_one39 h4)
  obtain ⟨a4, c4, hv4, -, hk4⟩ := hk4.open
  subst hv4
  replace hk4 : FSl J4 [x0] (.slice a4 1 c4) := hk4
  replace h0 := FSl.mono le4 h0
  refine ops_rule (C := []) [] [] 1 [] 0 (fun φ5 => [(2, .slice a4 1 c4)]) (fun φ5 => []) (fun φ5 => []) s trivial (fun φ5 => by kernel_rfl) ?_
  intro φ5 w5 s
  refine ops_done (by kernel_rfl) ?_
  refine wp_ret ?_
  refine ret_rule (C := []) [] [] (.slice a4 1 c4) [] [] s trivial (by kernel_rfl) ?_
  exact ⟨_, _, _, rfl, s, ⟨_, _, rfl, hk4⟩⟩

set_option maxHeartbeats 1000000 in
theorem fieldsF1_c {I : IM} {a0 : Option Addr} {c0 : Nat} (h0 : FSl I [x0] (.slice a0 1 c0)) : Fun Tryd.prog 19 #[.agg #[.slice a0 1 c0]] I (fun v J => ∃ a c, v = .slice a 1 c ∧ FSl J [x0] (.slice a 1 c)) := by
  refine enter_rule 6 [(0, .agg #[.slice a0 1 c0])] Tryd.func19 rfl (by kernel_rfl) ?_
  intro w s
  refine wp_seq ?_
  refine region_rule ?_
  refine ops_rule (C := []) [] [] 2 [] 1 (fun φ1 => [(2, .slice none 0 0), (1, .pointer (some ⟨(φ1 0), 0, none⟩))]) (fun φ1 => [((φ1 0), .cells #[.slice a0 1 c0] 26)]) (fun φ1 => []) s trivial (fun φ1 => by kernel_rfl) ?_
  intro φ1 w1 s
  refine ops_done (by kernel_rfl) ?_
  refine wp_seq ?_
  refine region_rule ?_
  refine ops_rule (C := []) [((φ1 0), .cells #[.slice a0 1 c0] 26)] [] 2 [.o 0] 0 (fun φ2 => [(4, .slice a0 1 c0), (3, .pointer (some ⟨(φ1 0), 0, none⟩))]) (fun φ2 => [((φ1 0), .cells #[.slice a0 1 c0] 26)]) (fun φ2 => [(φ1 0)]) s trivial (fun φ2 => by kernel_rfl) ?_
  intro φ2 w2 s
  refine call_rule (some 5) s (cloneF1_c h0) (by kernel_rfl) ?_
  intro v3 I3 w3 le3 h3 s
  replace h0 := FSl.mono le3 h0
  obtain ⟨a3, c3, rfl, h3_0⟩ := h3
  refine ops_rule (C := []) [((φ1 0), .cells #[.slice a0 1 c0] 26)] [] 1 [] 0 (fun φ4 => [(2, .slice a3 1 c3)]) (fun φ4 => [((φ1 0), .cells #[.slice a0 1 c0] 26)]) (fun φ4 => []) s trivial (fun φ4 => by kernel_rfl) ?_
  intro φ4 w4 s
  refine ops_done (by kernel_rfl) ?_
  refine wp_ret ?_
  refine ret_rule (C := []) [((φ1 0), .cells #[.slice a0 1 c0] 26)] [] (.slice a3 1 c3) [] [] s trivial (by kernel_rfl) ?_
  exact ⟨_, _, _, rfl, s, ⟨_, _, rfl, h3_0⟩⟩

set_option maxHeartbeats 2000000 in
theorem of_c {I : IM} {a0 : Option Addr} {c0 : Nat} (h0 : FSl I [x0] (.slice a0 1 c0)) : Fun Tryd.prog 57 #[.slice a0 1 c0] I (fun v J => ∃ a c, v = .tuple #[.agg #[.slice a 1 c], .int .i64 0] ∧ FSl J [x0] (.slice a 1 c)) := by
  refine enter_rule 34 [(0, .slice a0 1 c0)] Tryd.func57 rfl (by kernel_rfl) ?_
  intro w s
  refine wp_seq ?_
  refine region_rule ?_
  refine ops_rule (C := []) [] [] 2 [] 1 (fun φ1 => [(3, .int .i64 0), (2, .pointer (some ⟨(φ1 0), 0, none⟩))]) (fun φ1 => [((φ1 0), .cells #[.slice none 0 0] 26)]) (fun φ1 => []) s trivial (fun φ1 => by kernel_rfl) ?_
  intro φ1 w1 s
  refine ops_done (by kernel_rfl) ?_
  refine wp_seq ?_
  refine region_rule ?_
  refine ops_rule (C := []) [((φ1 0), .cells #[.slice none 0 0] 26)] [] 1 [] 0 (fun φ2 => [(4, .slice none 0 0)]) (fun φ2 => [((φ1 0), .cells #[.slice none 0 0] 26)]) (fun φ2 => []) s trivial (fun φ2 => by kernel_rfl) ?_
  intro φ2 w2 s
  refine ops_done (by kernel_rfl) ?_
  refine wp_seq ?_
  refine wp_seq ?_
  refine region_rule ?_
  refine ops_rule (C := []) [((φ1 0), .cells #[.slice none 0 0] 26)] [] 3 [] 0 (fun φ3 => [(11, .int .i64 0), (10, .int .i64 1), (9, .slice a0 1 c0)]) (fun φ3 => [((φ1 0), .cells #[.slice none 0 0] 26)]) (fun φ3 => []) s trivial (fun φ3 => by kernel_rfl) ?_
  intro φ3 w3 s
  refine ops_done (by kernel_rfl) ?_
  refine wp_block ?_
  refine Go.wp_loop_rounds 2 ?_
  refine rounds_step (n := 1) ?_
  refine wp_seq ?_
  refine region_rule ?_
  refine ops_rule (C := []) [((φ1 0), .cells #[.slice none 0 0] 26)] [] 1 [] 0 (fun φ4 => [(12, .bool true)]) (fun φ4 => [((φ1 0), .cells #[.slice none 0 0] 26)]) (fun φ4 => []) s trivial (fun φ4 => by kernel_rfl) ?_
  intro φ4 w4 s
  refine ops_done (by kernel_rfl) ?_
  refine wp_seq ?_
  refine cond_true_rule (b := true) (by kernel_rfl) rfl ?_
  refine wp_skip ?_
  refine wp_seq ?_
  refine wp_block ?_
  refine wp_seq ?_
  refine region_rule ?_
  refine sem_rule (Instr.indexAt 22 (.slice a0 1 c0) (.int .i64 0)) (some 13) (.pointer (pAt a0 (0 * 3))) (by kernel_rfl) (fsl_idx22 (i := 0) h0 (by decide)) ?_
  refine sem_rule (Instr.loadAt 39 (.pointer (pAt a0 (0 * 3)))) (some 14) (.agg #[.int .i64 1, .string ⟨#[]⟩, .string ⟨#[65, 110, 110]⟩]) (by kernel_rfl) (fsl_ld39 (i := 0) s.sub h0 (by decide)) ?_
  refine ops_rule (C := []) [((φ1 0), .cells #[.slice none 0 0] 26)] [] 2 [.o 1, .o 1, .o 1] 1 (fun φ5 => [(6, .pointer (some ⟨(φ5 0), 0, none⟩))]) (fun φ5 => [((φ1 0), .cells #[.slice none 0 0] 26), ((φ5 0), .cells #[.int .i64 1, .string ⟨#[]⟩, .string ⟨#[65, 110, 110]⟩] 39)]) (fun φ5 => [(φ5 0), (φ5 0), (φ5 0)]) s trivial (fun φ5 => by kernel_rfl) ?_
  intro φ5 w5 s
  refine ops_done (by kernel_rfl) ?_
  refine wp_seq ?_
  refine region_rule ?_
  refine ops_rule (C := []) [((φ1 0), .cells #[.slice none 0 0] 26), ((φ5 0), .cells #[.int .i64 1, .string ⟨#[]⟩, .string ⟨#[65, 110, 110]⟩] 39)] [] 2 [.o 1, .o 1, .o 1] 0 (fun φ6 => [(17, .agg #[.int .i64 1, .string ⟨#[]⟩, .string ⟨#[65, 110, 110]⟩]), (16, .slice none 0 0)]) (fun φ6 => [((φ1 0), .cells #[.slice none 0 0] 26), ((φ5 0), .cells #[.int .i64 1, .string ⟨#[]⟩, .string ⟨#[65, 110, 110]⟩] 39)]) (fun φ6 => [(φ5 0), (φ5 0), (φ5 0)]) s trivial (fun φ6 => by kernel_rfl) ?_
  intro φ6 w6 s
  refine call_rule (some 18) s (search_c) (by kernel_rfl) ?_
  intro v7 I7 w7 le7 h7 s
  replace h0 := FSl.mono le7 h0
  obtain rfl := h7
  refine ops_rule (C := []) [((φ1 0), .cells #[.slice none 0 0] 26), ((φ5 0), .cells #[.int .i64 1, .string ⟨#[]⟩, .string ⟨#[65, 110, 110]⟩] 39)] [] 5 [] 0 (fun φ8 => [(8, .bool false), (7, .int .i64 0), (20, .bool false), (19, .int .i64 0), (15, .tuple #[.int .i64 0, .bool false])]) (fun φ8 => [((φ1 0), .cells #[.slice none 0 0] 26), ((φ5 0), .cells #[.int .i64 1, .string ⟨#[]⟩, .string ⟨#[65, 110, 110]⟩] 39)]) (fun φ8 => []) s trivial (fun φ8 => by kernel_rfl) ?_
  intro φ8 w8 s
  refine ops_done (by kernel_rfl) ?_
  refine wp_seq ?_
  refine wp_seq ?_
  refine region_rule ?_
  refine ops_rule (C := []) [((φ1 0), .cells #[.slice none 0 0] 26), ((φ5 0), .cells #[.int .i64 1, .string ⟨#[]⟩, .string ⟨#[65, 110, 110]⟩] 39)] [] 1 [] 0 (fun φ9 => [(21, .bool false)]) (fun φ9 => [((φ1 0), .cells #[.slice none 0 0] 26), ((φ5 0), .cells #[.int .i64 1, .string ⟨#[]⟩, .string ⟨#[65, 110, 110]⟩] 39)]) (fun φ9 => []) s trivial (fun φ9 => by kernel_rfl) ?_
  intro φ9 w9 s
  refine ops_done (by kernel_rfl) ?_
  refine cond_false_rule (b := false) (by kernel_rfl) rfl ?_
  refine wp_skip ?_
  refine wp_seq ?_
  refine wp_seq ?_
  refine region_rule ?_
  refine ops_rule (C := []) [((φ1 0), .cells #[.slice none 0 0] 26), ((φ5 0), .cells #[.int .i64 1, .string ⟨#[]⟩, .string ⟨#[65, 110, 110]⟩] 39)] [] 3 [] 0 (fun φ10 => [(24, .bool false), (23, .int .i64 0), (22, .slice none 0 0)]) (fun φ10 => [((φ1 0), .cells #[.slice none 0 0] 26), ((φ5 0), .cells #[.int .i64 1, .string ⟨#[]⟩, .string ⟨#[65, 110, 110]⟩] 39)]) (fun φ10 => []) s trivial (fun φ10 => by kernel_rfl) ?_
  intro φ10 w10 s
  refine ops_done (by kernel_rfl) ?_
  refine cond_false_rule (b := false) (by kernel_rfl) rfl ?_
  refine wp_skip ?_
  refine region_rule ?_
  refine ops_rule (C := []) [((φ1 0), .cells #[.slice none 0 0] 26), ((φ5 0), .cells #[.int .i64 1, .string ⟨#[]⟩, .string ⟨#[65, 110, 110]⟩] 39)] [] 4 [.o 1, .o 1, .o 1] 1 (fun φ11 => [(29, .slice (some ⟨(φ11 0), 0, none⟩) 1 1), (28, .agg #[.int .i64 1, .string ⟨#[]⟩, .string ⟨#[65, 110, 110]⟩]), (27, .int .i64 0), (26, .slice none 0 0)]) (fun φ11 => [((φ1 0), .cells #[.slice none 0 0] 26), ((φ5 0), .cells #[.int .i64 1, .string ⟨#[]⟩, .string ⟨#[65, 110, 110]⟩] 39), ((φ11 0), .cells #[.int .i64 1, .string ⟨#[]⟩, .string ⟨#[65, 110, 110]⟩] 39)]) (fun φ11 => [(φ5 0), (φ5 0), (φ5 0)]) s trivial (fun φ11 => by kernel_rfl) ?_
  intro φ11 w11 s
  obtain ⟨I12, le12, hk12, s⟩ := s.freezeAt 2 (φ11 0) (.cells #[.int .i64 1, .string ⟨#[]⟩, .string ⟨#[65, 110, 110]⟩] 39) [((φ1 0), .cells #[.slice none 0 0] 26), ((φ5 0), .cells #[.int .i64 1, .string ⟨#[]⟩, .string ⟨#[65, 110, 110]⟩] 39)] (by kernel_rfl) (by kernel_rfl)
  replace h0 := FSl.mono le12 h0
  have hf13 := fsl_rb hk12
  refine call_rule (some 30) s (insert_c hf13) (by kernel_rfl) ?_
  intro v14 I14 w14 le14 h14 s
  replace h0 := FSl.mono le14 h0
  replace hf13 := FSl.mono le14 hf13
  replace hk12 := le14 _ _ hk12
  obtain ⟨a14, c14, rfl, h14_0⟩ := h14
  refine ops_rule (C := []) [((φ1 0), .cells #[.slice none 0 0] 26), ((φ5 0), .cells #[.int .i64 1, .string ⟨#[]⟩, .string ⟨#[65, 110, 110]⟩] 39)] [] 1 [] 0 (fun φ15 => [(4, .slice a14 1 c14)]) (fun φ15 => [((φ1 0), .cells #[.slice none 0 0] 26), ((φ5 0), .cells #[.int .i64 1, .string ⟨#[]⟩, .string ⟨#[65, 110, 110]⟩] 39)]) (fun φ15 => []) s trivial (fun φ15 => by kernel_rfl) ?_
  intro φ15 w15 s
  refine ops_done (by kernel_rfl) ?_
  refine region_rule ?_
  refine ops_rule (C := []) [((φ1 0), .cells #[.slice none 0 0] 26), ((φ5 0), .cells #[.int .i64 1, .string ⟨#[]⟩, .string ⟨#[65, 110, 110]⟩] 39)] [] 2 [] 0 (fun φ16 => [(11, .int .i64 1), (31, .int .i64 1)]) (fun φ16 => [((φ1 0), .cells #[.slice none 0 0] 26), ((φ5 0), .cells #[.int .i64 1, .string ⟨#[]⟩, .string ⟨#[65, 110, 110]⟩] 39)]) (fun φ16 => []) s trivial (fun φ16 => by kernel_rfl) ?_
  intro φ16 w16 s
  refine ops_done (by kernel_rfl) ?_
  refine rounds_step (n := 0) ?_
  refine wp_seq ?_
  refine region_rule ?_
  refine ops_rule (C := []) [((φ1 0), .cells #[.slice none 0 0] 26), ((φ5 0), .cells #[.int .i64 1, .string ⟨#[]⟩, .string ⟨#[65, 110, 110]⟩] 39)] [] 1 [] 0 (fun φ17 => [(12, .bool false)]) (fun φ17 => [((φ1 0), .cells #[.slice none 0 0] 26), ((φ5 0), .cells #[.int .i64 1, .string ⟨#[]⟩, .string ⟨#[65, 110, 110]⟩] 39)]) (fun φ17 => []) s trivial (fun φ17 => by kernel_rfl) ?_
  intro φ17 w17 s
  refine ops_done (by kernel_rfl) ?_
  refine wp_seq ?_
  refine cond_false_rule (b := false) (by kernel_rfl) rfl ?_
  refine wp_exit ?_
  refine wp_seq ?_
  refine region_rule ?_
  refine ops_rule (C := []) [((φ1 0), .cells #[.slice none 0 0] 26), ((φ5 0), .cells #[.int .i64 1, .string ⟨#[]⟩, .string ⟨#[65, 110, 110]⟩] 39)] [] 4 [.o 0] 0 (fun φ18 => [(3, .int .i64 0), (33, .agg #[.slice a14 1 c14]), (32, .slice a14 1 c14)]) (fun φ18 => [((φ1 0), .cells #[.slice a14 1 c14] 26), ((φ5 0), .cells #[.int .i64 1, .string ⟨#[]⟩, .string ⟨#[65, 110, 110]⟩] 39)]) (fun φ18 => [(φ1 0)]) s trivial (fun φ18 => by kernel_rfl) ?_
  intro φ18 w18 s
  refine ops_done (by kernel_rfl) ?_
  refine wp_ret ?_
  refine ret_rule (C := []) [((φ1 0), .cells #[.slice a14 1 c14] 26), ((φ5 0), .cells #[.int .i64 1, .string ⟨#[]⟩, .string ⟨#[65, 110, 110]⟩] 39)] [] (.tuple #[.agg #[.slice a14 1 c14], .int .i64 0]) [.o 0] [(φ1 0)] s trivial (by kernel_rfl) ?_
  exact ⟨_, _, _, rfl, s, ⟨_, _, rfl, h14_0⟩⟩

set_option maxHeartbeats 2000000 in
theorem make_c {I : IM} {a0 : Option Addr} {c0 : Nat} (h0 : FSl I [x0] (.slice a0 1 c0)) (hN : NmT I) (hT : Tx.U8 I) : Fun Tryd.prog 15 #[.slice a0 1 c0] I (fun v J => ∃ a c, v = .tuple #[.agg #[.slice a 1 c], .int .i64 0] ∧ FSl J [x0] (.slice a 1 c)) := by
  refine enter_rule 24 [(0, .slice a0 1 c0)] Tryd.func15 rfl (by kernel_rfl) ?_
  intro w s
  refine wp_seq ?_
  refine region_rule ?_
  refine ops_rule (C := []) [] [] 2 [] 1 (fun φ1 => [(3, .int .i64 0), (2, .pointer (some ⟨(φ1 0), 0, none⟩))]) (fun φ1 => [((φ1 0), .cells #[.slice none 0 0] 26)]) (fun φ1 => []) s trivial (fun φ1 => by kernel_rfl) ?_
  intro φ1 w1 s
  refine ops_done (by kernel_rfl) ?_
  refine wp_seq ?_
  refine wp_seq ?_
  refine region_rule ?_
  refine ops_rule (C := []) [((φ1 0), .cells #[.slice none 0 0] 26)] [] 3 [] 0 (fun φ2 => [(9, .int .i64 0), (8, .int .i64 1), (7, .slice a0 1 c0)]) (fun φ2 => [((φ1 0), .cells #[.slice none 0 0] 26)]) (fun φ2 => []) s trivial (fun φ2 => by kernel_rfl) ?_
  intro φ2 w2 s
  refine ops_done (by kernel_rfl) ?_
  refine wp_block ?_
  refine Go.wp_loop_rounds 2 ?_
  refine rounds_step (n := 1) ?_
  refine wp_seq ?_
  refine region_rule ?_
  refine ops_rule (C := []) [((φ1 0), .cells #[.slice none 0 0] 26)] [] 1 [] 0 (fun φ3 => [(10, .bool true)]) (fun φ3 => [((φ1 0), .cells #[.slice none 0 0] 26)]) (fun φ3 => []) s trivial (fun φ3 => by kernel_rfl) ?_
  intro φ3 w3 s
  refine ops_done (by kernel_rfl) ?_
  refine wp_seq ?_
  refine cond_true_rule (b := true) (by kernel_rfl) rfl ?_
  refine wp_skip ?_
  refine wp_seq ?_
  refine wp_block ?_
  refine wp_seq ?_
  refine region_rule ?_
  refine sem_rule (Instr.indexAt 22 (.slice a0 1 c0) (.int .i64 0)) (some 11) (.pointer (pAt a0 (0 * 3))) (by kernel_rfl) (fsl_idx22 (i := 0) h0 (by decide)) ?_
  refine sem_rule (Instr.loadAt 39 (.pointer (pAt a0 (0 * 3)))) (some 12) (.agg #[.int .i64 1, .string ⟨#[]⟩, .string ⟨#[65, 110, 110]⟩]) (by kernel_rfl) (fsl_ld39 (i := 0) s.sub h0 (by decide)) ?_
  refine ops_rule (C := []) [((φ1 0), .cells #[.slice none 0 0] 26)] [] 2 [.o 1, .o 1, .o 1] 1 (fun φ4 => [(5, .pointer (some ⟨(φ4 0), 0, none⟩))]) (fun φ4 => [((φ1 0), .cells #[.slice none 0 0] 26), ((φ4 0), .cells #[.int .i64 1, .string ⟨#[]⟩, .string ⟨#[65, 110, 110]⟩] 39)]) (fun φ4 => [(φ4 0), (φ4 0), (φ4 0)]) s trivial (fun φ4 => by kernel_rfl) ?_
  intro φ4 w4 s
  refine ops_done (by kernel_rfl) ?_
  refine wp_seq ?_
  refine region_rule ?_
  refine ops_rule (C := []) [((φ1 0), .cells #[.slice none 0 0] 26), ((φ4 0), .cells #[.int .i64 1, .string ⟨#[]⟩, .string ⟨#[65, 110, 110]⟩] 39)] [] 1 [.o 1, .o 1, .o 1] 0 (fun φ5 => [(13, .agg #[.int .i64 1, .string ⟨#[]⟩, .string ⟨#[65, 110, 110]⟩])]) (fun φ5 => [((φ1 0), .cells #[.slice none 0 0] 26), ((φ4 0), .cells #[.int .i64 1, .string ⟨#[]⟩, .string ⟨#[65, 110, 110]⟩] 39)]) (fun φ5 => [(φ4 0), (φ4 0), (φ4 0)]) s trivial (fun φ5 => by kernel_rfl) ?_
  intro φ5 w5 s
  refine call_rule (some 14) s (right_c hN hT) (by kernel_rfl) ?_
  intro v6 I6 w6 le6 h6 s
  replace h0 := FSl.mono le6 h0
  replace hN := NmT.mono le6 hN
  replace hT := u8_mono le6 hT
  obtain rfl := h6
  refine ops_rule (C := []) [((φ1 0), .cells #[.slice none 0 0] 26), ((φ4 0), .cells #[.int .i64 1, .string ⟨#[]⟩, .string ⟨#[65, 110, 110]⟩] 39)] [] 1 [] 0 (fun φ7 => [(6, .int .i64 0)]) (fun φ7 => [((φ1 0), .cells #[.slice none 0 0] 26), ((φ4 0), .cells #[.int .i64 1, .string ⟨#[]⟩, .string ⟨#[65, 110, 110]⟩] 39)]) (fun φ7 => []) s trivial (fun φ7 => by kernel_rfl) ?_
  intro φ7 w7 s
  refine ops_done (by kernel_rfl) ?_
  refine wp_seq ?_
  refine region_rule ?_
  refine ops_rule (C := []) [((φ1 0), .cells #[.slice none 0 0] 26), ((φ4 0), .cells #[.int .i64 1, .string ⟨#[]⟩, .string ⟨#[65, 110, 110]⟩] 39)] [] 2 [] 0 (fun φ8 => [(16, .bool false), (15, .int .i64 0)]) (fun φ8 => [((φ1 0), .cells #[.slice none 0 0] 26), ((φ4 0), .cells #[.int .i64 1, .string ⟨#[]⟩, .string ⟨#[65, 110, 110]⟩] 39)]) (fun φ8 => []) s trivial (fun φ8 => by kernel_rfl) ?_
  intro φ8 w8 s
  refine ops_done (by kernel_rfl) ?_
  refine cond_false_rule (b := false) (by kernel_rfl) rfl ?_
  refine wp_skip ?_
  refine region_rule ?_
  refine ops_rule (C := []) [((φ1 0), .cells #[.slice none 0 0] 26), ((φ4 0), .cells #[.int .i64 1, .string ⟨#[]⟩, .string ⟨#[65, 110, 110]⟩] 39)] [] 2 [] 0 (fun φ9 => [(9, .int .i64 1), (19, .int .i64 1)]) (fun φ9 => [((φ1 0), .cells #[.slice none 0 0] 26), ((φ4 0), .cells #[.int .i64 1, .string ⟨#[]⟩, .string ⟨#[65, 110, 110]⟩] 39)]) (fun φ9 => []) s trivial (fun φ9 => by kernel_rfl) ?_
  intro φ9 w9 s
  refine ops_done (by kernel_rfl) ?_
  refine rounds_step (n := 0) ?_
  refine wp_seq ?_
  refine region_rule ?_
  refine ops_rule (C := []) [((φ1 0), .cells #[.slice none 0 0] 26), ((φ4 0), .cells #[.int .i64 1, .string ⟨#[]⟩, .string ⟨#[65, 110, 110]⟩] 39)] [] 1 [] 0 (fun φ10 => [(10, .bool false)]) (fun φ10 => [((φ1 0), .cells #[.slice none 0 0] 26), ((φ4 0), .cells #[.int .i64 1, .string ⟨#[]⟩, .string ⟨#[65, 110, 110]⟩] 39)]) (fun φ10 => []) s trivial (fun φ10 => by kernel_rfl) ?_
  intro φ10 w10 s
  refine ops_done (by kernel_rfl) ?_
  refine wp_seq ?_
  refine cond_false_rule (b := false) (by kernel_rfl) rfl ?_
  refine wp_exit ?_
  refine wp_seq ?_
  refine region_rule ?_
  refine ops_rule (C := []) [((φ1 0), .cells #[.slice none 0 0] 26), ((φ4 0), .cells #[.int .i64 1, .string ⟨#[]⟩, .string ⟨#[65, 110, 110]⟩] 39)] [] 1 [] 0 (fun φ11 => [(20, .slice a0 1 c0)]) (fun φ11 => [((φ1 0), .cells #[.slice none 0 0] 26), ((φ4 0), .cells #[.int .i64 1, .string ⟨#[]⟩, .string ⟨#[65, 110, 110]⟩] 39)]) (fun φ11 => []) s trivial (fun φ11 => by kernel_rfl) ?_
  intro φ11 w11 s
  refine call_rule (some 21) s (of_c h0) (by kernel_rfl) ?_
  intro v12 I12 w12 le12 h12 s
  replace h0 := FSl.mono le12 h0
  replace hN := NmT.mono le12 hN
  replace hT := u8_mono le12 hT
  obtain ⟨a12, c12, rfl, h12_0⟩ := h12
  refine ops_rule (C := []) [((φ1 0), .cells #[.slice none 0 0] 26), ((φ4 0), .cells #[.int .i64 1, .string ⟨#[]⟩, .string ⟨#[65, 110, 110]⟩] 39)] [] 4 [.o 0] 0 (fun φ13 => [(3, .int .i64 0), (23, .int .i64 0), (22, .agg #[.slice a12 1 c12])]) (fun φ13 => [((φ1 0), .cells #[.slice a12 1 c12] 26), ((φ4 0), .cells #[.int .i64 1, .string ⟨#[]⟩, .string ⟨#[65, 110, 110]⟩] 39)]) (fun φ13 => [(φ1 0)]) s trivial (fun φ13 => by kernel_rfl) ?_
  intro φ13 w13 s
  refine ops_done (by kernel_rfl) ?_
  refine wp_ret ?_
  refine ret_rule (C := []) [((φ1 0), .cells #[.slice a12 1 c12] 26), ((φ4 0), .cells #[.int .i64 1, .string ⟨#[]⟩, .string ⟨#[65, 110, 110]⟩] 39)] [] (.tuple #[.agg #[.slice a12 1 c12], .int .i64 0]) [.o 0] [(φ1 0)] s trivial (by kernel_rfl) ?_
  exact ⟨_, _, _, rfl, s, ⟨_, _, rfl, h12_0⟩⟩

end Go.Proofs.YtcpmjogeafhpnaaDoor
/- The example. -/
set_option linter.all false
set_option maxRecDepth 100000
namespace Go.Proofs.YtcpmjogeafhpnaaDoor
open Go.RowKit Go.Sep
attribute [local irreducible] Go.wpList Go.Code.wp

theorem enc_ann : ([] ++ encL [x0]) = ([1, 1, 0, 3, 65, 110, 110] : List UInt8) := by decide +kernel
theorem okx0 : okL [x0] := fun i hi => by
  have : i = 0 := by simp only [List.length_cons, List.length_nil] at hi; omega
  subst this
  exact ⟨by decide, by decide, by decide, by decide⟩

theorem put1_c {I : IM} {a0 : Option Addr} {c0 : Nat} (h0 : FSl I [x0] (.slice a0 1 c0)) : Fun Tryd.prog 82 #[.slice none 0 0, .slice a0 1 c0] I (fun v J => ∃ a c, v = .slice a 7 c ∧ BSl J ([1, 1, 0, 3, 65, 110, 110] : List UInt8) (.slice a 7 c)) := by
  have h := putFields_c (l := []) (L := [x0]) (a := none) (c := 0) (bsl_nil I) (by decide) h0 (by decide) okx0
  rw [enc_ann] at h
  exact h
set_option maxHeartbeats 1000000 in
theorem putCard_c {I : IM} {a0 : Option Addr} {c0 : Nat} (h0 : FSl I [x0] (.slice a0 1 c0)) : Fun Tryd.prog 50 #[.slice none 0 0, .agg #[.slice a0 1 c0]] I (fun v J => ∃ a c, v = .slice a 7 c ∧ BSl J ([1, 1, 0, 3, 65, 110, 110] : List UInt8) (.slice a 7 c)) := by
  refine enter_rule 9 [(0, .slice none 0 0), (1, .agg #[.slice a0 1 c0])] Tryd.func50 rfl (by kernel_rfl) ?_
  intro w s
  refine wp_seq ?_
  refine region_rule ?_
  refine ops_rule (C := []) [] [] 2 [] 1 (fun φ1 => [(4, .slice none 0 0), (3, .pointer (some ⟨(φ1 0), 0, none⟩))]) (fun φ1 => [((φ1 0), .cells #[.slice a0 1 c0] 26)]) (fun φ1 => []) s trivial (fun φ1 => by kernel_rfl) ?_
  intro φ1 w1 s
  refine ops_done (by kernel_rfl) ?_
  refine wp_seq ?_
  refine region_rule ?_
  refine ops_rule (C := []) [((φ1 0), .cells #[.slice a0 1 c0] 26)] [] 2 [.o 0] 0 (fun φ2 => [(6, .agg #[.slice a0 1 c0]), (5, .slice none 0 0)]) (fun φ2 => [((φ1 0), .cells #[.slice a0 1 c0] 26)]) (fun φ2 => [(φ1 0)]) s trivial (fun φ2 => by kernel_rfl) ?_
  intro φ2 w2 s
  refine call_rule (some 7) s (fieldsF1_c h0) (by kernel_rfl) ?_
  intro v3 I3 w3 le3 h3 s
  replace h0 := FSl.mono le3 h0
  obtain ⟨a3, c3, rfl, h3_0⟩ := h3
  refine call_rule (some 8) s (put1_c h3_0) (by kernel_rfl) ?_
  intro v4 I4 w4 le4 h4 s
  replace h0 := FSl.mono le4 h0
  replace h3_0 := FSl.mono le4 h3_0
  obtain ⟨a4, c4, rfl, h4_0⟩ := h4
  refine ops_rule (C := []) [((φ1 0), .cells #[.slice a0 1 c0] 26)] [] 1 [] 0 (fun φ5 => [(4, .slice a4 7 c4)]) (fun φ5 => [((φ1 0), .cells #[.slice a0 1 c0] 26)]) (fun φ5 => []) s trivial (fun φ5 => by kernel_rfl) ?_
  intro φ5 w5 s
  refine ops_done (by kernel_rfl) ?_
  refine wp_ret ?_
  refine ret_rule (C := []) [((φ1 0), .cells #[.slice a0 1 c0] 26)] [] (.slice a4 7 c4) [] [] s trivial (by kernel_rfl) ?_
  exact ⟨_, _, _, rfl, s, ⟨_, _, rfl, h4_0⟩⟩

set_option maxHeartbeats 1000000 in
theorem card_c {I : IM} {a0 : Option Addr} {c0 : Nat} (h0 : FSl I [x0] (.slice a0 1 c0)) : Fun Tryd.prog 42 #[.agg #[.slice a0 1 c0]] I (fun v J => ∃ a c, v = .slice a 7 c ∧ BSl J ([1, 1, 0, 3, 65, 110, 110] : List UInt8) (.slice a 7 c)) := by
  refine enter_rule 5 [(0, .agg #[.slice a0 1 c0])] Tryd.func42 rfl (by kernel_rfl) ?_
  intro w s
  refine wp_seq ?_
  refine region_rule ?_
  refine ops_rule (C := []) [] [] 2 [] 1 (fun φ1 => [(2, .slice none 0 0), (1, .pointer (some ⟨(φ1 0), 0, none⟩))]) (fun φ1 => [((φ1 0), .cells #[.slice a0 1 c0] 26)]) (fun φ1 => []) s trivial (fun φ1 => by kernel_rfl) ?_
  intro φ1 w1 s
  refine ops_done (by kernel_rfl) ?_
  refine wp_seq ?_
  refine region_rule ?_
  refine ops_rule (C := []) [((φ1 0), .cells #[.slice a0 1 c0] 26)] [] 1 [.o 0] 0 (fun φ2 => [(3, .agg #[.slice a0 1 c0])]) (fun φ2 => [((φ1 0), .cells #[.slice a0 1 c0] 26)]) (fun φ2 => [(φ1 0)]) s trivial (fun φ2 => by kernel_rfl) ?_
  intro φ2 w2 s
  refine call_rule (some 4) s (putCard_c h0) (by kernel_rfl) ?_
  intro v3 I3 w3 le3 h3 s
  replace h0 := FSl.mono le3 h0
  obtain ⟨a3, c3, rfl, h3_0⟩ := h3
  refine ops_rule (C := []) [((φ1 0), .cells #[.slice a0 1 c0] 26)] [] 1 [] 0 (fun φ4 => [(2, .slice a3 7 c3)]) (fun φ4 => [((φ1 0), .cells #[.slice a0 1 c0] 26)]) (fun φ4 => []) s trivial (fun φ4 => by kernel_rfl) ?_
  intro φ4 w4 s
  refine ops_done (by kernel_rfl) ?_
  refine wp_ret ?_
  refine ret_rule (C := []) [((φ1 0), .cells #[.slice a0 1 c0] 26)] [] (.slice a3 7 c3) [] [] s trivial (by kernel_rfl) ?_
  exact ⟨_, _, _, rfl, s, ⟨_, _, rfl, h3_0⟩⟩

set_option maxHeartbeats 2000000 in
theorem awakeP_c {I : IM} (hN : NmT I) (hT : Tx.U8 I) : Fun Tryd.prog 37 #[] I (fun v J => v = .bool true) := by
  refine enter_rule 13 [] Tryd.func37 rfl (by kernel_rfl) ?_
  intro w s
  refine wp_seq ?_
  refine region_rule ?_
  refine ops_rule (C := []) [] [] 1 [] 0 (fun φ1 => [(0, .bool false)]) (fun φ1 => []) (fun φ1 => []) s trivial (fun φ1 => by kernel_rfl) ?_
  intro φ1 w1 s
  refine ops_done (by kernel_rfl) ?_
  refine wp_seq ?_
  refine region_rule ?_
  refine ops_rule (C := []) [] [] 2 [] 1 (fun φ2 => [(5, .slice (some ⟨(φ2 0), 0, none⟩) 1 1), (4, .agg #[.int .i64 1, .string ⟨#[]⟩, .string ⟨#[65, 110, 110]⟩])]) (fun φ2 => [((φ2 0), .cells #[.int .i64 1, .string ⟨#[]⟩, .string ⟨#[65, 110, 110]⟩] 39)]) (fun φ2 => []) s trivial (fun φ2 => by kernel_rfl) ?_
  intro φ2 w2 s
  obtain ⟨I3, le3, hk3, s⟩ := s.freezeAt 0 (φ2 0) (.cells #[.int .i64 1, .string ⟨#[]⟩, .string ⟨#[65, 110, 110]⟩] 39) [] (by kernel_rfl) (by kernel_rfl)
  replace hN := NmT.mono le3 hN
  replace hT := u8_mono le3 hT
  have hf4 := fsl_rb hk3
  refine call_rule (some 6) s (make_c hf4 hN hT) (by kernel_rfl) ?_
  intro v5 I5 w5 le5 h5 s
  replace hN := NmT.mono le5 hN
  replace hT := u8_mono le5 hT
  replace hf4 := FSl.mono le5 hf4
  replace hk3 := le5 _ _ hk3
  obtain ⟨a5, c5, rfl, h5_0⟩ := h5
  refine ops_rule (C := []) [] [] 6 [.o 0] 1 (fun φ6 => [(2, .int .i64 0), (1, .pointer (some ⟨(φ6 0), 0, none⟩)), (8, .int .i64 0), (7, .agg #[.slice a5 1 c5]), (3, .tuple #[.agg #[.slice a5 1 c5], .int .i64 0])]) (fun φ6 => [((φ6 0), .cells #[.slice a5 1 c5] 26)]) (fun φ6 => [(φ6 0)]) s trivial (fun φ6 => by kernel_rfl) ?_
  intro φ6 w6 s
  refine ops_done (by kernel_rfl) ?_
  refine wp_seq ?_
  refine region_rule ?_
  refine ops_rule (C := []) [((φ6 0), .cells #[.slice a5 1 c5] 26)] [] 1 [.o 0] 0 (fun φ7 => [(9, .agg #[.slice a5 1 c5])]) (fun φ7 => [((φ6 0), .cells #[.slice a5 1 c5] 26)]) (fun φ7 => [(φ6 0)]) s trivial (fun φ7 => by kernel_rfl) ?_
  intro φ7 w7 s
  refine call_rule (some 10) s (card_c h5_0) (by kernel_rfl) ?_
  intro v8 I8 w8 le8 h8 s
  replace hN := NmT.mono le8 hN
  replace hT := u8_mono le8 hT
  replace hf4 := FSl.mono le8 hf4
  replace h5_0 := FSl.mono le8 h5_0
  replace hk3 := le8 _ _ hk3
  obtain ⟨a8, c8, rfl, h8_0⟩ := h8
  refine ops_rule (C := []) [((φ6 0), .cells #[.slice a5 1 c5] 26)] [] 1 [] 1 (fun φ9 => [(11, .slice (some ⟨(φ9 0), 0, none⟩) 7 7)]) (fun φ9 => [((φ6 0), .cells #[.slice a5 1 c5] 26), ((φ9 0), .cells #[.int .u8 1, .int .u8 1, .int .u8 0, .int .u8 3, .int .u8 65, .int .u8 110, .int .u8 110] 5)]) (fun φ9 => []) s trivial (fun φ9 => by kernel_rfl) ?_
  intro φ9 w9 s
  obtain ⟨I10, le10, hk10, s⟩ := s.freezeAt 1 (φ9 0) (.cells #[.int .u8 1, .int .u8 1, .int .u8 0, .int .u8 3, .int .u8 65, .int .u8 110, .int .u8 110] 5) [((φ6 0), .cells #[.slice a5 1 c5] 26)] (by kernel_rfl) (by kernel_rfl)
  replace hN := NmT.mono le10 hN
  replace hT := u8_mono le10 hT
  replace hf4 := FSl.mono le10 hf4
  replace h5_0 := FSl.mono le10 h5_0
  replace h8_0 := BSl.mono le10 h8_0
  replace hk3 := le10 _ _ hk3
  refine call_rule (some 12) s (sameR_c (l := ([1, 1, 0, 3, 65, 110, 110] : List UInt8)) h8_0 (bsl_lit (l := ([1, 1, 0, 3, 65, 110, 110] : List UInt8)) hk10 (by kernel_rfl) rfl) (by decide)) (by kernel_rfl) ?_
  intro v11 I11 w11 le11 h11 s
  replace hN := NmT.mono le11 hN
  replace hT := u8_mono le11 hT
  replace hf4 := FSl.mono le11 hf4
  replace h5_0 := FSl.mono le11 h5_0
  replace h8_0 := BSl.mono le11 h8_0
  replace hk3 := le11 _ _ hk3
  replace hk10 := le11 _ _ hk10
  obtain rfl := h11
  refine ops_rule (C := []) [((φ6 0), .cells #[.slice a5 1 c5] 26)] [] 1 [] 0 (fun φ12 => [(0, .bool true)]) (fun φ12 => [((φ6 0), .cells #[.slice a5 1 c5] 26)]) (fun φ12 => []) s trivial (fun φ12 => by kernel_rfl) ?_
  intro φ12 w12 s
  refine ops_done (by kernel_rfl) ?_
  refine wp_ret ?_
  refine ret_rule (C := []) [((φ6 0), .cells #[.slice a5 1 c5] 26)] [] (.bool true) [] [] s trivial (by kernel_rfl) ?_
  exact ⟨_, _, _, rfl, s, rfl⟩

end Go.Proofs.YtcpmjogeafhpnaaDoor
/- Any bytes are a patch, or have an error. -/
set_option linter.all false
set_option maxRecDepth 100000
namespace Go.Proofs.YtcpmjogeafhpnaaDoor
open Go.RowKit Go.Sep
attribute [local irreducible] Go.wpList Go.Code.wp

theorem patchB_c {I : IM} {b : List UInt8} {a1 a2 a3 : Option Addr} {c1 c2 c3 : Nat} (hA : FSl I (rpA b) (.slice a1 (rpA b).length c1)) (hD : FSl I (rpD b) (.slice a2 (rpD b).length c2)) (hK : KSl I (rpK b) (.slice a3 (rpK b).length c3)) (h : (rpT b).2.2.2 = 0) :
    Fun Tryd.prog 44 #[.agg #[.slice a1 (rpA b).length c1, .slice a2 (rpD b).length c2, .slice a3 (rpK b).length c3]] I (fun v J => ∃ a c, v = .tuple #[.slice a b.length c, .int .i64 0] ∧ BSl J b (.slice a b.length c)) := by
  have q := rp_back h
  have r := patch_c hA hD hK q.2.1.1 q.2.2.1.1 q.2.2.2.1 q.2.1.2 q.2.2.1.2 q.2.2.2.2
  rw [q.1] at r
  exact r
theorem run_neI {w : World} {t u : TypeId} {z : Int} : (binOp .neq 3 (.int .i64 z) (.int .i64 z)).run Tryd.prog w = .ok (.bool false) w := by
  have e : (binOp .neq 3 (.int .i64 z) (.int .i64 z)).run Tryd.prog w = .ok (.bool (!(decide (z = z)))) w := by kernel_rfl
  rw [e, decide_eq_true rfl]; rfl

set_option maxHeartbeats 4000000 in
theorem paperTotal_c {I : IM} {l : List UInt8} {a : Option Addr} {n c : Nat} (hl : BSl I l (.slice a n c)) (hN : NmT I) (hT : Tx.U8 I) : Fun Tryd.prog 11 #[.slice a n c] I (fun v J => v = .bool true) := by
  obtain ⟨rfl, -⟩ := hl.cap
  refine enter_rule 72 [(0, .slice a l.length c)] Tryd.func11 rfl (by kernel_rfl) ?_
  intro w s
  refine wp_seq ?_
  refine region_rule ?_
  refine ops_rule (C := []) [] [] 1 [] 0 (fun φ1 => [(2, .bool false)]) (fun φ1 => []) (fun φ1 => []) s trivial (fun φ1 => by kernel_rfl) ?_
  intro φ1 w1 s
  refine ops_done (by kernel_rfl) ?_
  refine wp_seq ?_
  refine wp_seq ?_
  refine region_rule ?_
  refine call_rule (some 11) s (awakeP_c hN hT) (by kernel_rfl) ?_
  intro v2 I2 w2 le2 h2 s
  replace hl := BSl.mono le2 hl
  replace hN := NmT.mono le2 hN
  replace hT := u8_mono le2 hT
  obtain rfl := h2
  refine ops_rule (C := []) [] [] 1 [] 0 (fun φ3 => [(12, .bool false)]) (fun φ3 => []) (fun φ3 => []) s trivial (fun φ3 => by kernel_rfl) ?_
  intro φ3 w3 s
  refine ops_done (by kernel_rfl) ?_
  refine cond_false_rule (b := false) (by kernel_rfl) rfl ?_
  refine wp_skip ?_
  refine wp_seq ?_
  refine region_rule ?_
  refine ops_rule (C := []) [] [] 5 [] 1 (fun φ4 => [(17, .int .i64 (if ((600 : Nat) : Int) < ((l.length : Nat) : Int) then ((600 : Nat) : Int) else ((l.length : Nat) : Int))), (16, .int .i64 ((l.length : Nat) : Int)), (15, .slice a l.length c), (14, .slice a l.length c), (13, .slice (some ⟨(φ4 0), 0, none⟩) 0 0)]) (fun φ4 => [((φ4 0), .cells #[] 5)]) (fun φ4 => []) s trivial (fun φ4 => by kernel_rfl) ?_
  intro φ4 w4 s
  rw [nat_min (a := l.length) (b := 600)]
  refine sem_rule (Instr.sliceAt 61 (.slice a l.length c) none (some (.int .i64 ((min l.length 600 : Nat) : Int))) none) (some 18) (.slice a (min l.length 600) c) (by kernel_rfl) (run_to (by have hcp := (BSl.cap hl).2; (try simp only [List.length_drop, List.length_take, List.length_append, List.length_cons, List.length_nil] at hcp ⊢);   (try simp only [List.length_drop, List.length_take, List.length_append, List.length_cons, List.length_nil]); omega)) ?_
  refine append_rule (H := []) (F := [((φ4 0), .cells #[] 5)]) 61 61 5 Tryd.t5 (.int .u8 0) 1 1 (some 19) s Tryd.underlying61 (by kernel_rfl) (by kernel_rfl) (by kernel_rfl) (by kernel_rfl) (by kernel_rfl) (by decide) (row_new (φ4 0)) (src_bsl s.sub (bsl_to (hi := min l.length 600) hl (by have hcp := (BSl.cap hl).2; (try simp only [List.length_drop, List.length_take, List.length_append, List.length_cons, List.length_nil] at hcp ⊢);   (try simp only [List.length_drop, List.length_take, List.length_append, List.length_cons, List.length_nil]); omega))) (by simp only [maxLen, List.length_take]; omega) (by simp only [maxLen, List.length_take]; omega) (by kernel_rfl) ?_
  intro v5 w5 F5 s h5
  replace h5 : RowH 5 1 v5 (((l.take (min l.length 600))).length) (((l.take (min l.length 600))).map bV) F5 := row_app (x := []) (y := (l.take (min l.length 600))) h5
  obtain ⟨b9, hb9⟩ : ∃ b, b = (l.take (min l.length 600)) := ⟨_, rfl⟩
  have hn9 : b9.length ≤ 600 := by rw [hb9, List.length_take]; omega
  obtain ⟨I6, le6, hb6, s⟩ := freeze_row (H := []) (F := F5) s h5
  replace hl := BSl.mono le6 hl
  replace hN := NmT.mono le6 hN
  replace hT := u8_mono le6 hT
  rw [← hb9] at hb6
  obtain ⟨a6, c6, hv6, hc6, hb6⟩ := hb6.open
  subst hv6
  refine ops_rule (C := []) [] [] 1 [] 0 (fun φ7 => [(0, .slice a6 b9.length c6)]) (fun φ7 => []) (fun φ7 => []) s trivial (fun φ7 => by kernel_rfl) ?_
  intro φ7 w7 s
  refine ops_done (by kernel_rfl) ?_
  refine wp_seq ?_
  refine region_rule ?_
  refine ops_rule (C := []) [] [] 1 [] 0 (fun φ8 => [(21, .slice a6 b9.length c6)]) (fun φ8 => []) (fun φ8 => []) s trivial (fun φ8 => by kernel_rfl) ?_
  intro φ8 w8 s
  refine call_rule (some 22) s (readPatch_c hb6 (by omega)) (by kernel_rfl) ?_
  intro v9 I9 w9 le9 h9 s
  replace hl := BSl.mono le9 hl
  replace hN := NmT.mono le9 hN
  replace hT := u8_mono le9 hT
  replace hb6 := BSl.mono le9 hb6
  obtain ⟨p9, q9, r9, c9, d9, e9, rfl, h9_0, h9_1, h9_2⟩ := h9
  refine ops_rule (C := []) [] [] 6 [.o 0, .o 0, .o 0] 1 (fun φ10 => [(4, .int .i64 (((rpT b9).2.2.2 : Nat) : Int)), (3, .pointer (some ⟨(φ10 0), 0, none⟩)), (24, .int .i64 (((rpT b9).2.2.2 : Nat) : Int)), (23, .agg #[.slice p9 ((rpA b9).length) c9, .slice q9 ((rpD b9).length) d9, .slice r9 ((rpK b9).length) e9]), (20, .tuple #[.agg #[.slice p9 ((rpA b9).length) c9, .slice q9 ((rpD b9).length) d9, .slice r9 ((rpK b9).length) e9], .int .i64 (((rpT b9).2.2.2 : Nat) : Int)])]) (fun φ10 => [((φ10 0), .cells #[.slice p9 ((rpA b9).length) c9, .slice q9 ((rpD b9).length) d9, .slice r9 ((rpK b9).length) e9] 56)]) (fun φ10 => [(φ10 0), (φ10 0), (φ10 0)]) s trivial (fun φ10 => by kernel_rfl) ?_
  intro φ10 w10 s
  refine ops_done (by kernel_rfl) ?_
  refine wp_seq ?_
  refine region_rule ?_
  refine ops_rule (C := []) [((φ10 0), .cells #[.slice p9 ((rpA b9).length) c9, .slice q9 ((rpD b9).length) d9, .slice r9 ((rpK b9).length) e9] 56)] [] 1 [] 0 (fun φ11 => [(26, .slice a6 b9.length c6)]) (fun φ11 => [((φ10 0), .cells #[.slice p9 ((rpA b9).length) c9, .slice q9 ((rpD b9).length) d9, .slice r9 ((rpK b9).length) e9] 56)]) (fun φ11 => []) s trivial (fun φ11 => by kernel_rfl) ?_
  intro φ11 w11 s
  refine call_rule (some 27) s (refReadPatch_c hb6 (by omega)) (by kernel_rfl) ?_
  intro v12 I12 w12 le12 h12 s
  replace hl := BSl.mono le12 hl
  replace hN := NmT.mono le12 hN
  replace hT := u8_mono le12 hT
  replace hb6 := BSl.mono le12 hb6
  replace h9_0 := FSl.mono le12 h9_0
  replace h9_1 := FSl.mono le12 h9_1
  replace h9_2 := KSl.mono le12 h9_2
  obtain ⟨p12, q12, r12, c12, d12, e12, rfl, h12_0, h12_1, h12_2⟩ := h12
  refine ops_rule (C := []) [((φ10 0), .cells #[.slice p9 ((rpA b9).length) c9, .slice q9 ((rpD b9).length) d9, .slice r9 ((rpK b9).length) e9] 56)] [] 9 [] 0 (fun φ13 => [(8, .int .i64 (((rpT b9).2.2.2 : Nat) : Int)), (7, .slice r12 ((rpK b9).length) e12), (6, .slice q12 ((rpD b9).length) d12), (5, .slice p12 ((rpA b9).length) c12), (31, .int .i64 (((rpT b9).2.2.2 : Nat) : Int)), (30, .slice r12 ((rpK b9).length) e12), (29, .slice q12 ((rpD b9).length) d12), (28, .slice p12 ((rpA b9).length) c12), (25, .tuple #[.slice p12 ((rpA b9).length) c12, .slice q12 ((rpD b9).length) d12, .slice r12 ((rpK b9).length) e12, .int .i64 (((rpT b9).2.2.2 : Nat) : Int)])]) (fun φ13 => [((φ10 0), .cells #[.slice p9 ((rpA b9).length) c9, .slice q9 ((rpD b9).length) d9, .slice r9 ((rpK b9).length) e9] 56)]) (fun φ13 => []) s trivial (fun φ13 => by kernel_rfl) ?_
  intro φ13 w13 s
  refine ops_done (by kernel_rfl) ?_
  refine wp_seq ?_
  refine wp_seq ?_
  refine region_rule ?_
  refine ops_rule (C := []) [((φ10 0), .cells #[.slice p9 ((rpA b9).length) c9, .slice q9 ((rpD b9).length) d9, .slice r9 ((rpK b9).length) e9] 56)] [] 2 [] 0 (fun φ14 => [(33, .int .i64 (((rpT b9).2.2.2 : Nat) : Int)), (32, .int .i64 (((rpT b9).2.2.2 : Nat) : Int))]) (fun φ14 => [((φ10 0), .cells #[.slice p9 ((rpA b9).length) c9, .slice q9 ((rpD b9).length) d9, .slice r9 ((rpK b9).length) e9] 56)]) (fun φ14 => []) s trivial (fun φ14 => by kernel_rfl) ?_
  intro φ14 w14 s
  refine sem_rule (binOp .neq 3 (.int .i64 (((rpT b9).2.2.2 : Nat) : Int)) (.int .i64 (((rpT b9).2.2.2 : Nat) : Int))) (some 34) (.bool false) (by kernel_rfl) ((run_neI (t := 3) (u := 3))) ?_
  refine ops_rule (C := []) [((φ10 0), .cells #[.slice p9 ((rpA b9).length) c9, .slice q9 ((rpD b9).length) d9, .slice r9 ((rpK b9).length) e9] 56)] [] 3 [.o 0] 0 (fun φ15 => [(37, .slice p9 ((rpA b9).length) c9), (36, .pointer (some ⟨(φ10 0), 0, none⟩)), (35, .bool false)]) (fun φ15 => [((φ10 0), .cells #[.slice p9 ((rpA b9).length) c9, .slice q9 ((rpD b9).length) d9, .slice r9 ((rpK b9).length) e9] 56)]) (fun φ15 => [(φ10 0)]) s trivial (fun φ15 => by kernel_rfl) ?_
  intro φ15 w15 s
  refine call_rule (some 38) s (ownF_c h9_0 (by have := rp_lens b9; omega)) (by kernel_rfl) ?_
  intro v16 I16 w16 le16 h16 s
  replace hl := BSl.mono le16 hl
  replace hN := NmT.mono le16 hN
  replace hT := u8_mono le16 hT
  replace hb6 := BSl.mono le16 hb6
  replace h9_0 := FSl.mono le16 h9_0
  replace h9_1 := FSl.mono le16 h9_1
  replace h9_2 := KSl.mono le16 h9_2
  replace h12_0 := FSl.mono le16 h12_0
  replace h12_1 := FSl.mono le16 h12_1
  replace h12_2 := KSl.mono le16 h12_2
  obtain ⟨a16, c16, rfl, h16_0⟩ := h16
  refine ops_rule (C := []) [((φ10 0), .cells #[.slice p9 ((rpA b9).length) c9, .slice q9 ((rpD b9).length) d9, .slice r9 ((rpK b9).length) e9] 56)] [] 1 [] 0 (fun φ17 => [(39, .slice p12 ((rpA b9).length) c12)]) (fun φ17 => [((φ10 0), .cells #[.slice p9 ((rpA b9).length) c9, .slice q9 ((rpD b9).length) d9, .slice r9 ((rpK b9).length) e9] 56)]) (fun φ17 => []) s trivial (fun φ17 => by kernel_rfl) ?_
  intro φ17 w17 s
  refine call_rule (some 40) s (sameF_c h16_0 h12_0 (by have := rp_lens b9; omega)) (by kernel_rfl) ?_
  intro v18 I18 w18 le18 h18 s
  replace hl := BSl.mono le18 hl
  replace hN := NmT.mono le18 hN
  replace hT := u8_mono le18 hT
  replace hb6 := BSl.mono le18 hb6
  replace h9_0 := FSl.mono le18 h9_0
  replace h9_1 := FSl.mono le18 h9_1
  replace h9_2 := KSl.mono le18 h9_2
  replace h12_0 := FSl.mono le18 h12_0
  replace h12_1 := FSl.mono le18 h12_1
  replace h12_2 := KSl.mono le18 h12_2
  replace h16_0 := FSl.mono le18 h16_0
  obtain rfl := h18
  refine ops_rule (C := []) [((φ10 0), .cells #[.slice p9 ((rpA b9).length) c9, .slice q9 ((rpD b9).length) d9, .slice r9 ((rpK b9).length) e9] 56)] [] 5 [.o 0] 0 (fun φ19 => [(45, .slice q9 ((rpD b9).length) d9), (44, .pointer (some ⟨(φ10 0), 1, none⟩)), (43, .bool false), (42, .bool false), (41, .bool false)]) (fun φ19 => [((φ10 0), .cells #[.slice p9 ((rpA b9).length) c9, .slice q9 ((rpD b9).length) d9, .slice r9 ((rpK b9).length) e9] 56)]) (fun φ19 => [(φ10 0)]) s trivial (fun φ19 => by kernel_rfl) ?_
  intro φ19 w19 s
  refine call_rule (some 46) s (ownF_c h9_1 (by have := rp_lens b9; omega)) (by kernel_rfl) ?_
  intro v20 I20 w20 le20 h20 s
  replace hl := BSl.mono le20 hl
  replace hN := NmT.mono le20 hN
  replace hT := u8_mono le20 hT
  replace hb6 := BSl.mono le20 hb6
  replace h9_0 := FSl.mono le20 h9_0
  replace h9_1 := FSl.mono le20 h9_1
  replace h9_2 := KSl.mono le20 h9_2
  replace h12_0 := FSl.mono le20 h12_0
  replace h12_1 := FSl.mono le20 h12_1
  replace h12_2 := KSl.mono le20 h12_2
  replace h16_0 := FSl.mono le20 h16_0
  obtain ⟨a20, c20, rfl, h20_0⟩ := h20
  refine ops_rule (C := []) [((φ10 0), .cells #[.slice p9 ((rpA b9).length) c9, .slice q9 ((rpD b9).length) d9, .slice r9 ((rpK b9).length) e9] 56)] [] 1 [] 0 (fun φ21 => [(47, .slice q12 ((rpD b9).length) d12)]) (fun φ21 => [((φ10 0), .cells #[.slice p9 ((rpA b9).length) c9, .slice q9 ((rpD b9).length) d9, .slice r9 ((rpK b9).length) e9] 56)]) (fun φ21 => []) s trivial (fun φ21 => by kernel_rfl) ?_
  intro φ21 w21 s
  refine call_rule (some 48) s (sameF_c h20_0 h12_1 (by have := rp_lens b9; omega)) (by kernel_rfl) ?_
  intro v22 I22 w22 le22 h22 s
  replace hl := BSl.mono le22 hl
  replace hN := NmT.mono le22 hN
  replace hT := u8_mono le22 hT
  replace hb6 := BSl.mono le22 hb6
  replace h9_0 := FSl.mono le22 h9_0
  replace h9_1 := FSl.mono le22 h9_1
  replace h9_2 := KSl.mono le22 h9_2
  replace h12_0 := FSl.mono le22 h12_0
  replace h12_1 := FSl.mono le22 h12_1
  replace h12_2 := KSl.mono le22 h12_2
  replace h16_0 := FSl.mono le22 h16_0
  replace h20_0 := FSl.mono le22 h20_0
  obtain rfl := h22
  refine ops_rule (C := []) [((φ10 0), .cells #[.slice p9 ((rpA b9).length) c9, .slice q9 ((rpD b9).length) d9, .slice r9 ((rpK b9).length) e9] 56)] [] 6 [.o 0] 0 (fun φ23 => [(54, .slice r12 ((rpK b9).length) e12), (53, .slice r9 ((rpK b9).length) e9), (52, .pointer (some ⟨(φ10 0), 2, none⟩)), (51, .bool false), (50, .bool false), (49, .bool false)]) (fun φ23 => [((φ10 0), .cells #[.slice p9 ((rpA b9).length) c9, .slice q9 ((rpD b9).length) d9, .slice r9 ((rpK b9).length) e9] 56)]) (fun φ23 => [(φ10 0)]) s trivial (fun φ23 => by kernel_rfl) ?_
  intro φ23 w23 s
  refine call_rule (some 55) s (equalK_c h9_2 h12_2 (by have := rp_lens b9; omega)) (by kernel_rfl) ?_
  intro v24 I24 w24 le24 h24 s
  replace hl := BSl.mono le24 hl
  replace hN := NmT.mono le24 hN
  replace hT := u8_mono le24 hT
  replace hb6 := BSl.mono le24 hb6
  replace h9_0 := FSl.mono le24 h9_0
  replace h9_1 := FSl.mono le24 h9_1
  replace h9_2 := KSl.mono le24 h9_2
  replace h12_0 := FSl.mono le24 h12_0
  replace h12_1 := FSl.mono le24 h12_1
  replace h12_2 := KSl.mono le24 h12_2
  replace h16_0 := FSl.mono le24 h16_0
  replace h20_0 := FSl.mono le24 h20_0
  obtain rfl := h24
  refine ops_rule (C := []) [((φ10 0), .cells #[.slice p9 ((rpA b9).length) c9, .slice q9 ((rpD b9).length) d9, .slice r9 ((rpK b9).length) e9] 56)] [] 2 [] 0 (fun φ25 => [(57, .bool false), (56, .bool false)]) (fun φ25 => [((φ10 0), .cells #[.slice p9 ((rpA b9).length) c9, .slice q9 ((rpD b9).length) d9, .slice r9 ((rpK b9).length) e9] 56)]) (fun φ25 => []) s trivial (fun φ25 => by kernel_rfl) ?_
  intro φ25 w25 s
  refine ops_done (by kernel_rfl) ?_
  refine cond_false_rule (b := false) (by kernel_rfl) rfl ?_
  refine wp_skip ?_
  refine wp_seq ?_
  refine wp_seq ?_
  refine region_rule ?_
  refine ops_rule (C := []) [((φ10 0), .cells #[.slice p9 ((rpA b9).length) c9, .slice q9 ((rpD b9).length) d9, .slice r9 ((rpK b9).length) e9] 56)] [] 2 [] 0 (fun φ26 => [(59, .bool ((((rpT b9).2.2.2 : Nat) : Int) != ((0 : Nat) : Int))), (58, .int .i64 (((rpT b9).2.2.2 : Nat) : Int))]) (fun φ26 => [((φ10 0), .cells #[.slice p9 ((rpA b9).length) c9, .slice q9 ((rpD b9).length) d9, .slice r9 ((rpK b9).length) e9] 56)]) (fun φ26 => []) s trivial (fun φ26 => by kernel_rfl) ?_
  intro φ26 w26 s
  rw [nat_neq (a := ((rpT b9).2.2.2)) (b := 0)]
  refine ops_done (by kernel_rfl) ?_
  rcases Bool.eq_false_or_eq_true (decide (((rpT b9).2.2.2) ≠ 0)) with hc27 | hc27
  ·
    rw [hc27]
    refine cond_true_rule (b := true) (by kernel_rfl) rfl ?_
    refine wp_seq ?_
    refine region_rule ?_
    refine ops_rule (C := []) [((φ10 0), .cells #[.slice p9 ((rpA b9).length) c9, .slice q9 ((rpD b9).length) d9, .slice r9 ((rpK b9).length) e9] 56)] [] 1 [] 0 (fun φ28 => [(2, .bool true)]) (fun φ28 => [((φ10 0), .cells #[.slice p9 ((rpA b9).length) c9, .slice q9 ((rpD b9).length) d9, .slice r9 ((rpK b9).length) e9] 56)]) (fun φ28 => []) s trivial (fun φ28 => by kernel_rfl) ?_
    intro φ28 w28 s
    refine ops_done (by kernel_rfl) ?_
    refine wp_ret ?_
    refine ret_rule (C := []) [((φ10 0), .cells #[.slice p9 ((rpA b9).length) c9, .slice q9 ((rpD b9).length) d9, .slice r9 ((rpK b9).length) e9] 56)] [] (.bool true) [] [] s trivial (by kernel_rfl) ?_
    exact ⟨_, _, _, rfl, s, rfl⟩
  ·
    rw [hc27]
    refine cond_false_rule (b := false) (by kernel_rfl) rfl ?_
    refine wp_skip ?_
    refine wp_seq ?_
    refine region_rule ?_
    refine ops_rule (C := []) [((φ10 0), .cells #[.slice p9 ((rpA b9).length) c9, .slice q9 ((rpD b9).length) d9, .slice r9 ((rpK b9).length) e9] 56)] [] 1 [.o 0, .o 0, .o 0] 0 (fun φ29 => [(61, .agg #[.slice p9 ((rpA b9).length) c9, .slice q9 ((rpD b9).length) d9, .slice r9 ((rpK b9).length) e9])]) (fun φ29 => [((φ10 0), .cells #[.slice p9 ((rpA b9).length) c9, .slice q9 ((rpD b9).length) d9, .slice r9 ((rpK b9).length) e9] 56)]) (fun φ29 => [(φ10 0), (φ10 0), (φ10 0)]) s trivial (fun φ29 => by kernel_rfl) ?_
    intro φ29 w29 s
    refine call_rule (some 62) s (patchB_c h9_0 h9_1 h9_2 (by have h9 := of_decide_eq_false hc27; omega)) (by kernel_rfl) ?_
    intro v30 I30 w30 le30 h30 s
    replace hl := BSl.mono le30 hl
    replace hN := NmT.mono le30 hN
    replace hT := u8_mono le30 hT
    replace hb6 := BSl.mono le30 hb6
    replace h9_0 := FSl.mono le30 h9_0
    replace h9_1 := FSl.mono le30 h9_1
    replace h9_2 := KSl.mono le30 h9_2
    replace h12_0 := FSl.mono le30 h12_0
    replace h12_1 := FSl.mono le30 h12_1
    replace h12_2 := KSl.mono le30 h12_2
    replace h16_0 := FSl.mono le30 h16_0
    replace h20_0 := FSl.mono le30 h20_0
    obtain ⟨a30, c30, rfl, h30_0⟩ := h30
    refine ops_rule (C := []) [((φ10 0), .cells #[.slice p9 ((rpA b9).length) c9, .slice q9 ((rpD b9).length) d9, .slice r9 ((rpK b9).length) e9] 56)] [] 5 [] 0 (fun φ31 => [(10, .int .i64 0), (9, .slice a30 b9.length c30), (64, .int .i64 0), (63, .slice a30 b9.length c30), (60, .tuple #[.slice a30 b9.length c30, .int .i64 0])]) (fun φ31 => [((φ10 0), .cells #[.slice p9 ((rpA b9).length) c9, .slice q9 ((rpD b9).length) d9, .slice r9 ((rpK b9).length) e9] 56)]) (fun φ31 => []) s trivial (fun φ31 => by kernel_rfl) ?_
    intro φ31 w31 s
    refine ops_done (by kernel_rfl) ?_
    refine wp_seq ?_
    refine region_rule ?_
    refine ops_rule (C := []) [((φ10 0), .cells #[.slice p9 ((rpA b9).length) c9, .slice q9 ((rpD b9).length) d9, .slice r9 ((rpK b9).length) e9] 56)] [] 5 [] 0 (fun φ32 => [(69, .slice a6 b9.length c6), (68, .slice a30 b9.length c30), (67, .bool true), (66, .bool true), (65, .int .i64 0)]) (fun φ32 => [((φ10 0), .cells #[.slice p9 ((rpA b9).length) c9, .slice q9 ((rpD b9).length) d9, .slice r9 ((rpK b9).length) e9] 56)]) (fun φ32 => []) s trivial (fun φ32 => by kernel_rfl) ?_
    intro φ32 w32 s
    refine call_rule (some 70) s (sameR_c (l := b9) h30_0 hb6 (by omega)) (by kernel_rfl) ?_
    intro v33 I33 w33 le33 h33 s
    replace hl := BSl.mono le33 hl
    replace hN := NmT.mono le33 hN
    replace hT := u8_mono le33 hT
    replace hb6 := BSl.mono le33 hb6
    replace h9_0 := FSl.mono le33 h9_0
    replace h9_1 := FSl.mono le33 h9_1
    replace h9_2 := KSl.mono le33 h9_2
    replace h12_0 := FSl.mono le33 h12_0
    replace h12_1 := FSl.mono le33 h12_1
    replace h12_2 := KSl.mono le33 h12_2
    replace h16_0 := FSl.mono le33 h16_0
    replace h20_0 := FSl.mono le33 h20_0
    replace h30_0 := BSl.mono le33 h30_0
    obtain rfl := h33
    refine ops_rule (C := []) [((φ10 0), .cells #[.slice p9 ((rpA b9).length) c9, .slice q9 ((rpD b9).length) d9, .slice r9 ((rpK b9).length) e9] 56)] [] 2 [] 0 (fun φ34 => [(2, .bool true), (71, .bool true)]) (fun φ34 => [((φ10 0), .cells #[.slice p9 ((rpA b9).length) c9, .slice q9 ((rpD b9).length) d9, .slice r9 ((rpK b9).length) e9] 56)]) (fun φ34 => []) s trivial (fun φ34 => by kernel_rfl) ?_
    intro φ34 w34 s
    refine ops_done (by kernel_rfl) ?_
    refine wp_ret ?_
    refine ret_rule (C := []) [((φ10 0), .cells #[.slice p9 ((rpA b9).length) c9, .slice q9 ((rpD b9).length) d9, .slice r9 ((rpK b9).length) e9] 56)] [] (.bool true) [] [] s trivial (by kernel_rfl) ?_
    exact ⟨_, _, _, rfl, s, rfl⟩

end Go.Proofs.YtcpmjogeafhpnaaDoor
/- What the laid variables give. -/
set_option linter.all false
set_option maxRecDepth 100000
namespace Go.Proofs.YtcpmjogeafhpnaaDoor
open Go.RowKit Go.Sep Go.Lib
theorem ownKnob_none : ownKnob Tryd.prog.godebug = none := by kernel_rfl
abbrev laidT : List (String × DataW Unit) := Rows.paperTotalRow.laid
theorem tabs_of_laid {W : World} (h : laidMetH Tryd.prog laidT W) : Lib.Utf8Tabs 1 2 W := by
  rw [MakeChecks.laidMetH_plain _ _ _ (by kernel_rfl)] at h
  have h4 := Lib.laidMet.reads h (.head _)
  have h3 := Lib.laidMet.reads h (.tail _ (.tail _ (.head _)))
  exact utf8Tabs_of_readsT (ρ := Tryd.lays196_ren) (U8Types.of196 Tryd.lays196) ⟨by kernel_rfl, by kernel_rfl, by kernel_rfl, by kernel_rfl, by kernel_rfl, by kernel_rfl, by kernel_rfl⟩ (kcast (by kernel_rfl) h3) (kcast (by kernel_rfl) h4)
theorem block_of {W : World} {b o : Nat} {v : Value} (h : W.cell? ⟨b, o, none⟩ = some v) : ∃ cs T fr, W.heap[b]? = some (.cells cs T fr) ∧ cs[o]? = some v := by
  unfold World.cell? at h
  cases hb : W.heap[b]? with
  | none => simp [hb] at h
  | some ob =>
    cases ob <;> simp [hb] at h
    exact ⟨_, _, _, rfl, h⟩
theorem nm_of_laid {W : World} (h : laidMetH Tryd.prog laidT W) : NmT (fun k => W.heap[k]?) := by
  rw [MakeChecks.laidMetH_plain _ _ _ (by kernel_rfl)] at h
  obtain ⟨g, t, cs, fuel, p, hg, hty, hvar, hd⟩ := Lib.laidMet.reads h (.tail _ (.head _))
  obtain rfl := Option.some.inj ((show Tryd.prog.globalNamed "kinfolk/card.names" = some 0 by kernel_rfl).symm.trans hg)
  obtain rfl := Option.some.inj ((show (Tryd.prog.globals[0]?).map (·.type) = some 98 by kernel_rfl).symm.trans hty)
  obtain ⟨fuel', d, q, hdi, he⟩ := array_elem (show Tryd.prog.underlying 98 = some (.array 7 9) by kernel_rfl) hd 1 (by decide)
  obtain rfl : DataW.lit (.string [110, 97, 109, 101]) = d := Option.some.inj hdi
  obtain ⟨s, hc, hx, -⟩ := DataW.trod_string Tryd.underlying9 he
  have hs : s = ⟨#[110, 97, 109, 101]⟩ := by
    have h1 := congrArg Prod.fst hx
    simp only [DataW.lit.injEq, Lit.string.injEq] at h1
    obtain ⟨⟨l⟩⟩ := s
    simp only at h1
    exact congrArg ByteArray.mk (congrArg Array.mk h1.symm)
  rw [show Tryd.prog.cellsOf 9 = 1 by kernel_rfl] at hc
  have e0 := congrArg (·[0]?) hc
  simp only [List.getElem?_take, List.getElem?_drop] at e0
  have h2 := World.var?_cell hg hvar 1
  rw [← Array.getElem?_toList] at h2
  unfold NmT
  rw [← hs]
  exact block_of (h2.trans (by simpa using e0))
theorem cell_up {W w : World} (hw : IM.Sub (fun k => W.heap[k]?) w) {a : Addr} {v : Value} (h : W.cell? a = some v) : w.cell? a = some v := by
  unfold World.cell? at h ⊢
  cases e : W.heap[a.block]? with
  | none => rw [e] at h; cases h
  | some o => rw [hw _ _ e]; rw [e] at h; exact h
theorem u8_of_laid {W : World} (h : laidMetH Tryd.prog laidT W) : Tx.U8 (fun k => W.heap[k]?) := fun w hw =>
  have t := tabs_of_laid h
  ⟨fun c hc => cell_up hw (t.1 c hc), fun i hi => ⟨cell_up hw (t.2 i hi).1, cell_up hw (t.2 i hi).2⟩⟩
theorem met_wit (os : Os) (args : Array Value) : laidMetH Tryd.prog laidT ((World.laidAll Tryd.prog os laidT).forCall (fun _ _ => 0) ⟨#[], args, []⟩).memory := by
  rw [MakeChecks.laidMetH_plain _ _ _ (by kernel_rfl)]; exact laidMet_laidAll _ (by kernel_rfl) (by kernel_rfl)
end Go.Proofs.YtcpmjogeafhpnaaDoor
/- A slice of bytes that came in, as the contracts want it. -/
set_option linter.all false
namespace Go.Proofs.YtcpmjogeafhpnaaDoor
open Go.RowKit Go.Sep

theorem u8_nat {z : Int} (h : (Lit.int .u8 z).wf = true) : z = (((UInt8.ofNat z.toNat).toNat : Nat) : Int) := by
  have hb : 0 ≤ z ∧ z < 256 := by
    have := h; simp [Lit.wf, IntKind.min, IntKind.max, IntKind.signed, IntKind.bits] at this; omega
  rw [UInt8.toNat_ofNat']
  omega
theorem cell_block {w : World} {b o : Nat} {v : Value} (h : w.cell? ⟨b, o, none⟩ = some v) : ∃ cs T fr, w.heap[b]? = some (.cells cs T fr) ∧ cs[o]? = some v := by
  unfold World.cell? at h
  cases hb : w.heap[b]? with
  | none => simp [hb] at h
  | some ob =>
    cases ob <;> simp [hb] at h
    exact ⟨_, _, _, rfl, h⟩
theorem bslI_row {w : World} {a : Option Addr} {len cap : Nat} {zs : List Int}
    (h : (a = none ∧ len = 0 ∧ cap = 0 ∧ zs = []) ∨ ∃ x, a = some x ∧ len ≤ cap ∧ cap ≤ maxLen ∧ zs.length = cap ∧ (∀ i, i < zs.length → w.cell? (x.add i) = some (.int .u8 (zs.getD i 0))) ∧ ∀ n ∈ zs, (Lit.int .u8 n).wf = true) :
    ∃ l, BSl (fun k => w.heap[k]?) l (.slice a len cap) := by
  rcases h with ⟨rfl, rfl, rfl, rfl⟩ | ⟨x, rfl, hl, hm, hz, hc, hw⟩
  · exact ⟨[], bsl_nil _⟩
  · refine ⟨(zs.take len).map fun z => UInt8.ofNat z.toNat, some x, cap, by rw [List.length_map, List.length_take, Nat.min_eq_left (show len ≤ zs.length by omega)], by rw [List.length_map, List.length_take]; omega, fun j y hj => ?_⟩
    rw [List.getElem?_map, Option.map_eq_some_iff] at hj
    obtain ⟨z, hz1, rfl⟩ := hj
    rw [List.getElem?_take] at hz1
    split at hz1
    · have hjl : j < zs.length := (List.getElem?_eq_some_iff.1 hz1).1
      have h1 := hc j hjl
      have h2 : zs.getD j 0 = z := by simp [hz1]
      rw [h2] at h1
      obtain ⟨b, o, sp⟩ := x
      cases sp with
      | none =>
        have : (⟨b, o, none⟩ : Addr).add j = ⟨b, o + j, none⟩ := by unfold Addr.add; split <;> simp_all
        rw [this] at h1
        obtain ⟨cs, T, fr, e1, e2⟩ := cell_block h1
        refine ⟨b, o, cs, T, fr, rfl, e1, ?_⟩
        rw [← u8_nat (hw z (List.mem_of_getElem? hz1))]; exact e2
      | some sp =>
        exfalso
        have h0 := hc 0 (by omega)
        unfold World.cell? Addr.add at h0
        rw [if_pos rfl] at h0
        revert h0
        split <;> simp
    · cases hz1
end Go.Proofs.YtcpmjogeafhpnaaDoor
