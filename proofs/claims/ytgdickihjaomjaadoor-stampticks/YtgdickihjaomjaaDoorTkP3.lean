/- The program's stamps: Grow, Tick, Fork, Join. -/
import Derived.Test.YtgdickihjaomjaaDoorTkP2
import Derived.Test.YtgdickihjaomjaaDoorTkE4
import Derived.Test.YtgdickihjaomjaaDoorTkI3
set_option linter.all false
set_option maxRecDepth 100000
namespace Go.Proofs.YtgdickihjaomjaaDoor
open Go.RowKit Go.Sep

def growR (i : T) (e : E) : E × Nat × Nat := if i.isZero = true then (e, 0, 2) else (if (growF 40 i e).2 ≠ 0 then e else (growF 40 i e).1, priceF 40 i e, (growF 40 i e).2)
def tickR (i : T) (e : E) : E × Nat := if (leqF 64 (fillE i e) e && leqF 64 e (fillE i e)) = true then ((growR i e).1, (growR i e).2.2) else (fillE i e, 0)
abbrev stv (ib : Bool) (ip : Option Addr) (eb : Nat) (ep : Option Addr) : Value := .agg #[.bool ib, .pointer ip, .int .u64 ((eb : Nat) : Int), .pointer ep]
theorem growR_le (i : T) (e : E) : (growR i e).2.1 ≤ 1048576 + 40 * 1001 ∧ (growR i e).2.2 ≤ 4 := by
  unfold growR
  have h1 := price_le 40 i e
  have h2 := grow_b 40 i e
  split
  · exact ⟨by simp, by simp⟩
  · exact ⟨h1, h2.2.2⟩

set_option maxHeartbeats 2000000 in
theorem growR_c {I : IM} {i : T} {e : E} {ib : Bool} {ip : Option Addr} {eb : Nat} {ep : Option Addr} (hi : TRep I i ib ip) (he : ERep I e eb ep) (hlive : i.live) (hid : i.depth ≤ 16) (ht : e.top ≤ 1048576) (hd : e.depth ≤ 16) : Fun Tryd.prog 55 #[idv ib ip, evv eb ep] I (fun v J => ∃ b p, v = .tuple #[evv b p, .int .i64 (((growR i e).2.1 : Nat) : Int), .int .i64 (((growR i e).2.2 : Nat) : Int)] ∧ ERep J (growR i e).1 b p) := by
  have hgb := grow_b 40 i e
  have hpb := price_le 40 i e
  refine enter_rule 26 [(0, .agg #[.bool ib, .pointer ip]), (1, .agg #[.int .u64 ((eb : Nat) : Int), .pointer ep])] Tryd.func55 rfl (by kernel_rfl) ?_
  intro w s
  refine wp_seq ?_
  refine region_rule ?_
  refine ops_rule (C := []) [] [] 5 [] 3 (fun φ1 => [(6, .int .i64 0), (5, .int .i64 0), (4, .pointer (some ⟨(φ1 2), 0, none⟩)), (3, .pointer (some ⟨(φ1 1), 0, none⟩)), (2, .pointer (some ⟨(φ1 0), 0, none⟩))]) (fun φ1 => [((φ1 0), .cells #[.bool ib, .pointer ip] 62), ((φ1 1), .cells #[.int .u64 ((eb : Nat) : Int), .pointer ep] 27), ((φ1 2), .cells #[.int .u64 0, .pointer none] 27)]) (fun φ1 => []) s trivial (fun φ1 => by kernel_rfl) ?_
  intro φ1 w1 s
  refine ops_done (by kernel_rfl) ?_
  refine wp_seq ?_
  refine wp_seq ?_
  refine region_rule ?_
  refine ops_rule (C := []) [((φ1 0), .cells #[.bool ib, .pointer ip] 62), ((φ1 1), .cells #[.int .u64 ((eb : Nat) : Int), .pointer ep] 27), ((φ1 2), .cells #[.int .u64 0, .pointer none] 27)] [] 1 [.o 0, .o 0] 0 (fun φ2 => [(9, .agg #[.bool ib, .pointer ip])]) (fun φ2 => [((φ1 0), .cells #[.bool ib, .pointer ip] 62), ((φ1 1), .cells #[.int .u64 ((eb : Nat) : Int), .pointer ep] 27), ((φ1 2), .cells #[.int .u64 0, .pointer none] 27)]) (fun φ2 => [(φ1 0), (φ1 0)]) s trivial (fun φ2 => by kernel_rfl) ?_
  intro φ2 w2 s
  refine call_rule (some 10) s (isZero_c hi) (by kernel_rfl) ?_
  intro v3 I3 w3 le3 h3 s
  replace hi := TRep.mono le3 hi
  replace he := ERep.mono le3 he
  obtain rfl := h3
  refine ops_done (by kernel_rfl) ?_
  rcases Bool.eq_false_or_eq_true (T.isZero i) with hc4 | hc4
  ·
    rw [hc4]
    refine cond_true_rule (b := true) (by kernel_rfl) rfl ?_
    refine wp_seq ?_
    refine region_rule ?_
    refine ops_rule (C := []) [((φ1 0), .cells #[.bool ib, .pointer ip] 62), ((φ1 1), .cells #[.int .u64 ((eb : Nat) : Int), .pointer ep] 27), ((φ1 2), .cells #[.int .u64 0, .pointer none] 27)] [] 4 [.o 1, .o 1, .o 2, .o 2] 0 (fun φ5 => [(6, .int .i64 2), (5, .int .i64 0), (11, .agg #[.int .u64 ((eb : Nat) : Int), .pointer ep])]) (fun φ5 => [((φ1 0), .cells #[.bool ib, .pointer ip] 62), ((φ1 1), .cells #[.int .u64 ((eb : Nat) : Int), .pointer ep] 27), ((φ1 2), .cells #[.int .u64 ((eb : Nat) : Int), .pointer ep] 27)]) (fun φ5 => [(φ1 1), (φ1 1), (φ1 2), (φ1 2)]) s trivial (fun φ5 => by kernel_rfl) ?_
    intro φ5 w5 s
    refine ops_done (by kernel_rfl) ?_
    refine wp_ret ?_
    refine ret_rule (C := []) [((φ1 0), .cells #[.bool ib, .pointer ip] 62), ((φ1 1), .cells #[.int .u64 ((eb : Nat) : Int), .pointer ep] 27), ((φ1 2), .cells #[.int .u64 ((eb : Nat) : Int), .pointer ep] 27)] [] (.tuple #[.agg #[.int .u64 ((eb : Nat) : Int), .pointer ep], .int .i64 0, .int .i64 2]) [.o 2, .o 2] [(φ1 2), (φ1 2)] s trivial (by kernel_rfl) ?_
    exact ⟨_, _, _, rfl, s, (by rw [growR, if_pos hc4]; exact ⟨_, _, rfl, he⟩)⟩
  ·
    rw [hc4]
    refine cond_false_rule (b := false) (by kernel_rfl) rfl ?_
    refine wp_skip ?_
    refine wp_seq ?_
    refine region_rule ?_
    refine ops_rule (C := []) [((φ1 0), .cells #[.bool ib, .pointer ip] 62), ((φ1 1), .cells #[.int .u64 ((eb : Nat) : Int), .pointer ep] 27), ((φ1 2), .cells #[.int .u64 0, .pointer none] 27)] [] 2 [.o 0, .o 0, .o 1, .o 1] 0 (fun φ6 => [(14, .agg #[.int .u64 ((eb : Nat) : Int), .pointer ep]), (13, .agg #[.bool ib, .pointer ip])]) (fun φ6 => [((φ1 0), .cells #[.bool ib, .pointer ip] 62), ((φ1 1), .cells #[.int .u64 ((eb : Nat) : Int), .pointer ep] 27), ((φ1 2), .cells #[.int .u64 0, .pointer none] 27)]) (fun φ6 => [(φ1 0), (φ1 0), (φ1 1), (φ1 1)]) s trivial (fun φ6 => by kernel_rfl) ?_
    intro φ6 w6 s
    refine call_rule (some 15) s (grow_c 40 (by omega) hlive hc4 (by omega) (by omega) (by omega) hi he) (by kernel_rfl) ?_
    intro v7 I7 w7 le7 h7 s
    replace hi := TRep.mono le7 hi
    replace he := ERep.mono le7 he
    obtain ⟨b7, p7, rfl, h7_0⟩ := h7
    refine ops_rule (C := []) [((φ1 0), .cells #[.bool ib, .pointer ip] 62), ((φ1 1), .cells #[.int .u64 ((eb : Nat) : Int), .pointer ep] 27), ((φ1 2), .cells #[.int .u64 0, .pointer none] 27)] [] 6 [.o 3, .o 3] 1 (fun φ8 => [(8, .int .i64 (((growF 40 i e).2 : Nat) : Int)), (7, .pointer (some ⟨(φ8 0), 0, none⟩)), (17, .int .i64 (((growF 40 i e).2 : Nat) : Int)), (16, .agg #[.int .u64 ((b7 : Nat) : Int), .pointer p7]), (12, .tuple #[.agg #[.int .u64 ((b7 : Nat) : Int), .pointer p7], .int .i64 (((growF 40 i e).2 : Nat) : Int)])]) (fun φ8 => [((φ1 0), .cells #[.bool ib, .pointer ip] 62), ((φ1 1), .cells #[.int .u64 ((eb : Nat) : Int), .pointer ep] 27), ((φ1 2), .cells #[.int .u64 0, .pointer none] 27), ((φ8 0), .cells #[.int .u64 ((b7 : Nat) : Int), .pointer p7] 27)]) (fun φ8 => [(φ8 0), (φ8 0)]) s trivial (fun φ8 => by kernel_rfl) ?_
    intro φ8 w8 s
    refine ops_done (by kernel_rfl) ?_
    refine wp_seq ?_
    refine wp_seq ?_
    refine region_rule ?_
    refine ops_rule (C := []) [((φ1 0), .cells #[.bool ib, .pointer ip] 62), ((φ1 1), .cells #[.int .u64 ((eb : Nat) : Int), .pointer ep] 27), ((φ1 2), .cells #[.int .u64 0, .pointer none] 27), ((φ8 0), .cells #[.int .u64 ((b7 : Nat) : Int), .pointer p7] 27)] [] 2 [] 0 (fun φ9 => [(19, .bool ((((growF 40 i e).2 : Nat) : Int) != ((0 : Nat) : Int))), (18, .int .i64 (((growF 40 i e).2 : Nat) : Int))]) (fun φ9 => [((φ1 0), .cells #[.bool ib, .pointer ip] 62), ((φ1 1), .cells #[.int .u64 ((eb : Nat) : Int), .pointer ep] 27), ((φ1 2), .cells #[.int .u64 0, .pointer none] 27), ((φ8 0), .cells #[.int .u64 ((b7 : Nat) : Int), .pointer p7] 27)]) (fun φ9 => []) s trivial (fun φ9 => by kernel_rfl) ?_
    intro φ9 w9 s
    rw [nat_neq (a := ((growF 40 i e).2)) (b := 0)]
    refine ops_done (by kernel_rfl) ?_
    rcases Bool.eq_false_or_eq_true (decide (((growF 40 i e).2) ≠ 0)) with hc10 | hc10
    ·
      rw [hc10]
      refine cond_true_rule (b := true) (by kernel_rfl) rfl ?_
      refine region_rule ?_
      refine ops_rule (C := []) [((φ1 0), .cells #[.bool ib, .pointer ip] 62), ((φ1 1), .cells #[.int .u64 ((eb : Nat) : Int), .pointer ep] 27), ((φ1 2), .cells #[.int .u64 0, .pointer none] 27), ((φ8 0), .cells #[.int .u64 ((b7 : Nat) : Int), .pointer p7] 27)] [] 2 [.o 1, .o 1, .o 3, .o 3] 0 (fun φ11 => [(20, .agg #[.int .u64 ((eb : Nat) : Int), .pointer ep])]) (fun φ11 => [((φ1 0), .cells #[.bool ib, .pointer ip] 62), ((φ1 1), .cells #[.int .u64 ((eb : Nat) : Int), .pointer ep] 27), ((φ1 2), .cells #[.int .u64 0, .pointer none] 27), ((φ8 0), .cells #[.int .u64 ((eb : Nat) : Int), .pointer ep] 27)]) (fun φ11 => [(φ1 1), (φ1 1), (φ8 0), (φ8 0)]) s trivial (fun φ11 => by kernel_rfl) ?_
      intro φ11 w11 s
      refine ops_done (by kernel_rfl) ?_
      refine wp_seq ?_
      refine draw_rule (C := []) ⟨(fun φ12 xs12 => [.look 0 [.o 3, .o 3] [(φ8 0), (φ8 0)], .look 0 [.o 0, .o 0] [(φ1 0), (φ1 0)], .look 0 [.o 1, .o 1] [(φ1 1), (φ1 1)], .call 96 #[.agg #[.bool ib, .pointer ip], .agg #[.int .u64 ((eb : Nat) : Int), .pointer ep]], .look 0 [] [], .store 0 [.o 2, .o 2] [(φ1 2), (φ1 2)], .look 1 [] [], .look 1 [] []]), (fun φ12 xs12 => [.agg #[.int .u64 ((eb : Nat) : Int), .pointer ep], .agg #[.bool ib, .pointer ip], .agg #[.int .u64 ((eb : Nat) : Int), .pointer ep], .int .i64 ((priceF 40 i e : Nat) : Int), .int .i64 (((growF 40 i e).2 : Nat) : Int), undef, .int .i64 ((priceF 40 i e : Nat) : Int), .int .i64 (((growF 40 i e).2 : Nat) : Int)]), (fun φ12 xs12 => [[((φ1 0), .cells #[.bool ib, .pointer ip] 62), ((φ1 1), .cells #[.int .u64 ((eb : Nat) : Int), .pointer ep] 27), ((φ1 2), .cells #[.int .u64 0, .pointer none] 27), ((φ8 0), .cells #[.int .u64 ((eb : Nat) : Int), .pointer ep] 27)], [((φ1 0), .cells #[.bool ib, .pointer ip] 62), ((φ1 1), .cells #[.int .u64 ((eb : Nat) : Int), .pointer ep] 27), ((φ1 2), .cells #[.int .u64 ((eb : Nat) : Int), .pointer ep] 27), ((φ8 0), .cells #[.int .u64 ((eb : Nat) : Int), .pointer ep] 27)]]), (fun φ12 xs12 => [[default, default, default, default, default, default, default, default], [default, default, default, default, default, default, default, default]]), [5], [1, 1, 1, 3, 1, 4, 1, 1]⟩ (fun j => ([MP.any, MP.any, MP.any, MP.any, MP.any, MP.any, MP.any, MP.any] : List MP).getD j MP.any) [3] [] [] (fun φ12 xs12 => [[none, none, none, none, none, none, none, none]]) (fun φ12 xs12 => [(21, .agg #[.int .u64 ((eb : Nat) : Int), .pointer ep]), (22, .agg #[.bool ib, .pointer ip]), (23, .agg #[.int .u64 ((eb : Nat) : Int), .pointer ep]), (24, .int .i64 ((priceF 40 i e : Nat) : Int)), (25, .int .i64 (((growF 40 i e).2 : Nat) : Int)), (5, .int .i64 ((priceF 40 i e : Nat) : Int)), (6, .int .i64 (((growF 40 i e).2 : Nat) : Int))]) (fun φ12 xs12 => [((φ1 0), .cells #[.bool ib, .pointer ip] 62), ((φ1 1), .cells #[.int .u64 ((eb : Nat) : Int), .pointer ep] 27), ((φ1 2), .cells #[.int .u64 ((eb : Nat) : Int), .pointer ep] 27), ((φ8 0), .cells #[.int .u64 ((eb : Nat) : Int), .pointer ep] 27)]) s trivial (by kernel_rfl) (by kernel_rfl) (fun _ _ => by kernel_rfl) (fun _ _ => by kernel_rfl) ⟨fun _ _ => by kernel_rfl, fun _ _ => by kernel_rfl, fun _ _ => by kernel_rfl, fun _ _ => by kernel_rfl⟩ (fun _ _ _ => by kernel_rfl) (fun _ _ => by kernel_rfl) (fun _ _ => by kernel_rfl) (fun _ _ => by kernel_rfl) (fun _ _ => by kernel_rfl) (fun _ _ => by kernel_rfl) trivial trivial ⟨?c12_3, trivial⟩ ?k12
      case c12_3 =>
        refine kcast (A := ∀ (φ12 : Nat → Nat) (xs12 : Xs) (J3_12 : IM), I7.Le J3_12 → Fun Tryd.prog 96 #[.agg #[.bool ib, .pointer ip], .agg #[.int .u64 ((eb : Nat) : Int), .pointer ep]] J3_12 (fun v J' => ∃ x : UX, v = .int .i64 ((priceF 40 i e : Nat) : Int) ∧ (True))) (by kernel_rfl) ?_
        intro φ12 xs12 J3_12 leJ
        have hi := TRep.mono leJ hi
        have he := ERep.mono leJ he
        exact Fun.mono (price_c 40 (by omega) (by omega) hi he) (fun v J' _ h => ⟨UX.d, h, trivial⟩)
      case k12 =>
        rintro φ12 xs12 I12 w12 le12 s _
        replace hi := TRep.mono le12 hi
        replace he := ERep.mono le12 he
        replace h7_0 := ERep.mono le12 h7_0
        refine wp_ret ?_
        refine ret_rule (C := []) [((φ1 0), .cells #[.bool ib, .pointer ip] 62), ((φ1 1), .cells #[.int .u64 ((eb : Nat) : Int), .pointer ep] 27), ((φ1 2), .cells #[.int .u64 ((eb : Nat) : Int), .pointer ep] 27), ((φ8 0), .cells #[.int .u64 ((eb : Nat) : Int), .pointer ep] 27)] [] (.tuple #[.agg #[.int .u64 ((eb : Nat) : Int), .pointer ep], .int .i64 ((priceF 40 i e : Nat) : Int), .int .i64 (((growF 40 i e).2 : Nat) : Int)]) [.o 2, .o 2] [(φ1 2), (φ1 2)] s trivial (by kernel_rfl) ?_
        exact ⟨_, _, _, rfl, s, (by rw [growR, if_neg (by rw [hc4]; simp), if_pos (of_decide_eq_true hc10)]; exact ⟨_, _, rfl, he⟩)⟩
    ·
      rw [hc10]
      refine cond_false_rule (b := false) (by kernel_rfl) rfl ?_
      refine wp_skip ?_
      refine wp_seq ?_
      refine draw_rule (C := []) ⟨(fun φ13 xs13 => [.look 0 [.o 3, .o 3] [(φ8 0), (φ8 0)], .look 0 [.o 0, .o 0] [(φ1 0), (φ1 0)], .look 0 [.o 1, .o 1] [(φ1 1), (φ1 1)], .call 96 #[.agg #[.bool ib, .pointer ip], .agg #[.int .u64 ((eb : Nat) : Int), .pointer ep]], .look 0 [] [], .store 0 [.o 2, .o 2] [(φ1 2), (φ1 2)], .look 1 [] [], .look 1 [] []]), (fun φ13 xs13 => [.agg #[.int .u64 ((b7 : Nat) : Int), .pointer p7], .agg #[.bool ib, .pointer ip], .agg #[.int .u64 ((eb : Nat) : Int), .pointer ep], .int .i64 ((priceF 40 i e : Nat) : Int), .int .i64 (((growF 40 i e).2 : Nat) : Int), undef, .int .i64 ((priceF 40 i e : Nat) : Int), .int .i64 (((growF 40 i e).2 : Nat) : Int)]), (fun φ13 xs13 => [[((φ1 0), .cells #[.bool ib, .pointer ip] 62), ((φ1 1), .cells #[.int .u64 ((eb : Nat) : Int), .pointer ep] 27), ((φ1 2), .cells #[.int .u64 0, .pointer none] 27), ((φ8 0), .cells #[.int .u64 ((b7 : Nat) : Int), .pointer p7] 27)], [((φ1 0), .cells #[.bool ib, .pointer ip] 62), ((φ1 1), .cells #[.int .u64 ((eb : Nat) : Int), .pointer ep] 27), ((φ1 2), .cells #[.int .u64 ((b7 : Nat) : Int), .pointer p7] 27), ((φ8 0), .cells #[.int .u64 ((b7 : Nat) : Int), .pointer p7] 27)]]), (fun φ13 xs13 => [[default, default, default, default, default, default, default, default], [default, default, default, default, default, default, default, default]]), [5], [1, 1, 1, 3, 1, 4, 1, 1]⟩ (fun j => ([MP.any, MP.any, MP.any, MP.any, MP.any, MP.any, MP.any, MP.any] : List MP).getD j MP.any) [3] [] [] (fun φ13 xs13 => [[none, none, none, none, none, none, none, none]]) (fun φ13 xs13 => [(21, .agg #[.int .u64 ((b7 : Nat) : Int), .pointer p7]), (22, .agg #[.bool ib, .pointer ip]), (23, .agg #[.int .u64 ((eb : Nat) : Int), .pointer ep]), (24, .int .i64 ((priceF 40 i e : Nat) : Int)), (25, .int .i64 (((growF 40 i e).2 : Nat) : Int)), (5, .int .i64 ((priceF 40 i e : Nat) : Int)), (6, .int .i64 (((growF 40 i e).2 : Nat) : Int))]) (fun φ13 xs13 => [((φ1 0), .cells #[.bool ib, .pointer ip] 62), ((φ1 1), .cells #[.int .u64 ((eb : Nat) : Int), .pointer ep] 27), ((φ1 2), .cells #[.int .u64 ((b7 : Nat) : Int), .pointer p7] 27), ((φ8 0), .cells #[.int .u64 ((b7 : Nat) : Int), .pointer p7] 27)]) s trivial (by kernel_rfl) (by kernel_rfl) (fun _ _ => by kernel_rfl) (fun _ _ => by kernel_rfl) ⟨fun _ _ => by kernel_rfl, fun _ _ => by kernel_rfl, fun _ _ => by kernel_rfl, fun _ _ => by kernel_rfl⟩ (fun _ _ _ => by kernel_rfl) (fun _ _ => by kernel_rfl) (fun _ _ => by kernel_rfl) (fun _ _ => by kernel_rfl) (fun _ _ => by kernel_rfl) (fun _ _ => by kernel_rfl) trivial trivial ⟨?c13_3, trivial⟩ ?k13
      case c13_3 =>
        refine kcast (A := ∀ (φ13 : Nat → Nat) (xs13 : Xs) (J3_13 : IM), I7.Le J3_13 → Fun Tryd.prog 96 #[.agg #[.bool ib, .pointer ip], .agg #[.int .u64 ((eb : Nat) : Int), .pointer ep]] J3_13 (fun v J' => ∃ x : UX, v = .int .i64 ((priceF 40 i e : Nat) : Int) ∧ (True))) (by kernel_rfl) ?_
        intro φ13 xs13 J3_13 leJ
        have hi := TRep.mono leJ hi
        have he := ERep.mono leJ he
        exact Fun.mono (price_c 40 (by omega) (by omega) hi he) (fun v J' _ h => ⟨UX.d, h, trivial⟩)
      case k13 =>
        rintro φ13 xs13 I13 w13 le13 s _
        replace hi := TRep.mono le13 hi
        replace he := ERep.mono le13 he
        replace h7_0 := ERep.mono le13 h7_0
        refine wp_ret ?_
        refine ret_rule (C := []) [((φ1 0), .cells #[.bool ib, .pointer ip] 62), ((φ1 1), .cells #[.int .u64 ((eb : Nat) : Int), .pointer ep] 27), ((φ1 2), .cells #[.int .u64 ((b7 : Nat) : Int), .pointer p7] 27), ((φ8 0), .cells #[.int .u64 ((b7 : Nat) : Int), .pointer p7] 27)] [] (.tuple #[.agg #[.int .u64 ((b7 : Nat) : Int), .pointer p7], .int .i64 ((priceF 40 i e : Nat) : Int), .int .i64 (((growF 40 i e).2 : Nat) : Int)]) [.o 2, .o 2] [(φ1 2), (φ1 2)] s trivial (by kernel_rfl) ?_
        exact ⟨_, _, _, rfl, s, (by rw [growR, if_neg (by rw [hc4]; simp), if_neg (of_decide_eq_false hc10)]; exact ⟨_, _, rfl, h7_0⟩)⟩

set_option maxHeartbeats 2000000 in
theorem tick_c {I : IM} {i : T} {e : E} {ib : Bool} {ip : Option Addr} {eb : Nat} {ep : Option Addr} (hi : TRep I i ib ip) (he : ERep I e eb ep) (hlive : i.live) (hid : i.depth ≤ 16) (ht : e.top ≤ 1048576) (hd : e.depth ≤ 16) : Fun Tryd.prog 45 #[stv ib ip eb ep] I (fun v J => ∃ b p, v = .tuple #[stv ib ip b p, .int .i64 (((tickR i e).2 : Nat) : Int)] ∧ ERep J (tickR i e).1 b p) := by
  have hgb := growR_le i e
  have hfb := fill_bounds e i
  refine enter_rule 29 [(0, .agg #[.bool ib, .pointer ip, .int .u64 ((eb : Nat) : Int), .pointer ep])] Tryd.func45 rfl (by kernel_rfl) ?_
  intro w s
  refine wp_seq ?_
  refine region_rule ?_
  refine ops_rule (C := []) [] [] 3 [] 2 (fun φ1 => [(3, .int .i64 0), (2, .pointer (some ⟨(φ1 1), 0, none⟩)), (1, .pointer (some ⟨(φ1 0), 0, none⟩))]) (fun φ1 => [((φ1 0), .cells #[.bool ib, .pointer ip, .int .u64 ((eb : Nat) : Int), .pointer ep] 64), ((φ1 1), .cells #[.bool false, .pointer none, .int .u64 0, .pointer none] 64)]) (fun φ1 => []) s trivial (fun φ1 => by kernel_rfl) ?_
  intro φ1 w1 s
  refine ops_done (by kernel_rfl) ?_
  refine wp_seq ?_
  refine region_rule ?_
  refine ops_rule (C := []) [((φ1 0), .cells #[.bool ib, .pointer ip, .int .u64 ((eb : Nat) : Int), .pointer ep] 64), ((φ1 1), .cells #[.bool false, .pointer none, .int .u64 0, .pointer none] 64)] [] 4 [.o 0, .o 0, .o 0, .o 0] 0 (fun φ2 => [(9, .agg #[.int .u64 ((eb : Nat) : Int), .pointer ep]), (8, .pointer (some ⟨(φ1 0), 2, none⟩)), (7, .agg #[.bool ib, .pointer ip]), (6, .pointer (some ⟨(φ1 0), 0, none⟩))]) (fun φ2 => [((φ1 0), .cells #[.bool ib, .pointer ip, .int .u64 ((eb : Nat) : Int), .pointer ep] 64), ((φ1 1), .cells #[.bool false, .pointer none, .int .u64 0, .pointer none] 64)]) (fun φ2 => [(φ1 0), (φ1 0), (φ1 0), (φ1 0)]) s trivial (fun φ2 => by kernel_rfl) ?_
  intro φ2 w2 s
  refine call_rule (some 10) s (fill_c e i (by omega) (by omega) hi he) (by kernel_rfl) ?_
  intro v3 I3 w3 le3 h3 s
  replace hi := TRep.mono le3 hi
  replace he := ERep.mono le3 he
  obtain ⟨b3, p3, rfl, h3_0⟩ := h3
  refine ops_rule (C := []) [((φ1 0), .cells #[.bool ib, .pointer ip, .int .u64 ((eb : Nat) : Int), .pointer ep] 64), ((φ1 1), .cells #[.bool false, .pointer none, .int .u64 0, .pointer none] 64)] [] 2 [.o 2, .o 2] 1 (fun φ4 => [(4, .pointer (some ⟨(φ4 0), 0, none⟩))]) (fun φ4 => [((φ1 0), .cells #[.bool ib, .pointer ip, .int .u64 ((eb : Nat) : Int), .pointer ep] 64), ((φ1 1), .cells #[.bool false, .pointer none, .int .u64 0, .pointer none] 64), ((φ4 0), .cells #[.int .u64 ((b3 : Nat) : Int), .pointer p3] 27)]) (fun φ4 => [(φ4 0), (φ4 0)]) s trivial (fun φ4 => by kernel_rfl) ?_
  intro φ4 w4 s
  refine ops_done (by kernel_rfl) ?_
  refine wp_seq ?_
  refine region_rule ?_
  refine ops_rule (C := []) [((φ1 0), .cells #[.bool ib, .pointer ip, .int .u64 ((eb : Nat) : Int), .pointer ep] 64), ((φ1 1), .cells #[.bool false, .pointer none, .int .u64 0, .pointer none] 64), ((φ4 0), .cells #[.int .u64 ((b3 : Nat) : Int), .pointer p3] 27)] [] 1 [] 0 (fun φ5 => [(5, .int .i64 0)]) (fun φ5 => [((φ1 0), .cells #[.bool ib, .pointer ip, .int .u64 ((eb : Nat) : Int), .pointer ep] 64), ((φ1 1), .cells #[.bool false, .pointer none, .int .u64 0, .pointer none] 64), ((φ4 0), .cells #[.int .u64 ((b3 : Nat) : Int), .pointer p3] 27)]) (fun φ5 => []) s trivial (fun φ5 => by kernel_rfl) ?_
  intro φ5 w5 s
  refine ops_done (by kernel_rfl) ?_
  refine wp_seq ?_
  refine wp_seq ?_
  refine region_rule ?_
  refine ops_rule (C := []) [((φ1 0), .cells #[.bool ib, .pointer ip, .int .u64 ((eb : Nat) : Int), .pointer ep] 64), ((φ1 1), .cells #[.bool false, .pointer none, .int .u64 0, .pointer none] 64), ((φ4 0), .cells #[.int .u64 ((b3 : Nat) : Int), .pointer p3] 27)] [] 3 [.o 2, .o 2, .o 0, .o 0] 0 (fun φ6 => [(13, .agg #[.int .u64 ((eb : Nat) : Int), .pointer ep]), (12, .pointer (some ⟨(φ1 0), 2, none⟩)), (11, .agg #[.int .u64 ((b3 : Nat) : Int), .pointer p3])]) (fun φ6 => [((φ1 0), .cells #[.bool ib, .pointer ip, .int .u64 ((eb : Nat) : Int), .pointer ep] 64), ((φ1 1), .cells #[.bool false, .pointer none, .int .u64 0, .pointer none] 64), ((φ4 0), .cells #[.int .u64 ((b3 : Nat) : Int), .pointer p3] 27)]) (fun φ6 => [(φ4 0), (φ4 0), (φ1 0), (φ1 0)]) s trivial (fun φ6 => by kernel_rfl) ?_
  intro φ6 w6 s
  refine call_rule (some 14) s (same_c h3_0 he (by omega) (by omega) (by omega) (by omega)) (by kernel_rfl) ?_
  intro v7 I7 w7 le7 h7 s
  replace hi := TRep.mono le7 hi
  replace he := ERep.mono le7 he
  replace h3_0 := ERep.mono le7 h3_0
  obtain rfl := h7
  refine ops_done (by kernel_rfl) ?_
  rcases Bool.eq_false_or_eq_true ((leqF 64 (fillE i e) e && leqF 64 e (fillE i e))) with hc8 | hc8
  ·
    rw [hc8]
    refine cond_true_rule (b := true) (by kernel_rfl) rfl ?_
    refine region_rule ?_
    refine ops_rule (C := []) [((φ1 0), .cells #[.bool ib, .pointer ip, .int .u64 ((eb : Nat) : Int), .pointer ep] 64), ((φ1 1), .cells #[.bool false, .pointer none, .int .u64 0, .pointer none] 64), ((φ4 0), .cells #[.int .u64 ((b3 : Nat) : Int), .pointer p3] 27)] [] 4 [.o 0, .o 0, .o 0, .o 0] 0 (fun φ9 => [(19, .agg #[.int .u64 ((eb : Nat) : Int), .pointer ep]), (18, .pointer (some ⟨(φ1 0), 2, none⟩)), (17, .agg #[.bool ib, .pointer ip]), (16, .pointer (some ⟨(φ1 0), 0, none⟩))]) (fun φ9 => [((φ1 0), .cells #[.bool ib, .pointer ip, .int .u64 ((eb : Nat) : Int), .pointer ep] 64), ((φ1 1), .cells #[.bool false, .pointer none, .int .u64 0, .pointer none] 64), ((φ4 0), .cells #[.int .u64 ((b3 : Nat) : Int), .pointer p3] 27)]) (fun φ9 => [(φ1 0), (φ1 0), (φ1 0), (φ1 0)]) s trivial (fun φ9 => by kernel_rfl) ?_
    intro φ9 w9 s
    refine call_rule (some 20) s (growR_c hi he hlive (by omega) (by omega) (by omega)) (by kernel_rfl) ?_
    intro v10 I10 w10 le10 h10 s
    replace hi := TRep.mono le10 hi
    replace he := ERep.mono le10 he
    replace h3_0 := ERep.mono le10 h3_0
    obtain ⟨b10, p10, rfl, h10_0⟩ := h10
    refine ops_rule (C := []) [((φ1 0), .cells #[.bool ib, .pointer ip, .int .u64 ((eb : Nat) : Int), .pointer ep] 64), ((φ1 1), .cells #[.bool false, .pointer none, .int .u64 0, .pointer none] 64), ((φ4 0), .cells #[.int .u64 ((b3 : Nat) : Int), .pointer p3] 27)] [] 6 [.o 2, .o 2] 0 (fun φ11 => [(5, .int .i64 (((growR i e).2.2 : Nat) : Int)), (23, .int .i64 (((growR i e).2.2 : Nat) : Int)), (22, .int .i64 (((growR i e).2.1 : Nat) : Int)), (21, .agg #[.int .u64 ((b10 : Nat) : Int), .pointer p10]), (15, .tuple #[.agg #[.int .u64 ((b10 : Nat) : Int), .pointer p10], .int .i64 (((growR i e).2.1 : Nat) : Int), .int .i64 (((growR i e).2.2 : Nat) : Int)])]) (fun φ11 => [((φ1 0), .cells #[.bool ib, .pointer ip, .int .u64 ((eb : Nat) : Int), .pointer ep] 64), ((φ1 1), .cells #[.bool false, .pointer none, .int .u64 0, .pointer none] 64), ((φ4 0), .cells #[.int .u64 ((b10 : Nat) : Int), .pointer p10] 27)]) (fun φ11 => [(φ4 0), (φ4 0)]) s trivial (fun φ11 => by kernel_rfl) ?_
    intro φ11 w11 s
    refine ops_done (by kernel_rfl) ?_
    refine wp_seq ?_
    refine region_rule ?_
    refine ops_rule (C := []) [((φ1 0), .cells #[.bool ib, .pointer ip, .int .u64 ((eb : Nat) : Int), .pointer ep] 64), ((φ1 1), .cells #[.bool false, .pointer none, .int .u64 0, .pointer none] 64), ((φ4 0), .cells #[.int .u64 ((b10 : Nat) : Int), .pointer p10] 27)] [] 7 [.o 0, .o 0, .o 2, .o 2, .o 1, .o 1, .o 1, .o 1] 0 (fun φ12 => [(3, .int .i64 (((growR i e).2.2 : Nat) : Int)), (28, .int .i64 (((growR i e).2.2 : Nat) : Int)), (27, .agg #[.bool ib, .pointer ip, .int .u64 ((b10 : Nat) : Int), .pointer p10]), (26, .agg #[.int .u64 ((b10 : Nat) : Int), .pointer p10]), (25, .agg #[.bool ib, .pointer ip]), (24, .pointer (some ⟨(φ1 0), 0, none⟩))]) (fun φ12 => [((φ1 0), .cells #[.bool ib, .pointer ip, .int .u64 ((eb : Nat) : Int), .pointer ep] 64), ((φ1 1), .cells #[.bool ib, .pointer ip, .int .u64 ((b10 : Nat) : Int), .pointer p10] 64), ((φ4 0), .cells #[.int .u64 ((b10 : Nat) : Int), .pointer p10] 27)]) (fun φ12 => [(φ1 0), (φ1 0), (φ4 0), (φ4 0), (φ1 1), (φ1 1), (φ1 1), (φ1 1)]) s trivial (fun φ12 => by kernel_rfl) ?_
    intro φ12 w12 s
    refine ops_done (by kernel_rfl) ?_
    refine wp_ret ?_
    refine ret_rule (C := []) [((φ1 0), .cells #[.bool ib, .pointer ip, .int .u64 ((eb : Nat) : Int), .pointer ep] 64), ((φ1 1), .cells #[.bool ib, .pointer ip, .int .u64 ((b10 : Nat) : Int), .pointer p10] 64), ((φ4 0), .cells #[.int .u64 ((b10 : Nat) : Int), .pointer p10] 27)] [] (.tuple #[.agg #[.bool ib, .pointer ip, .int .u64 ((b10 : Nat) : Int), .pointer p10], .int .i64 (((growR i e).2.2 : Nat) : Int)]) [.o 1, .o 1, .o 1, .o 1] [(φ1 1), (φ1 1), (φ1 1), (φ1 1)] s trivial (by kernel_rfl) ?_
    exact ⟨_, _, _, rfl, s, (by rw [tickR, if_pos hc8]; exact ⟨_, _, rfl, h10_0⟩)⟩
  ·
    rw [hc8]
    refine cond_false_rule (b := false) (by kernel_rfl) rfl ?_
    refine wp_skip ?_
    refine wp_seq ?_
    refine region_rule ?_
    refine ops_rule (C := []) [((φ1 0), .cells #[.bool ib, .pointer ip, .int .u64 ((eb : Nat) : Int), .pointer ep] 64), ((φ1 1), .cells #[.bool false, .pointer none, .int .u64 0, .pointer none] 64), ((φ4 0), .cells #[.int .u64 ((b3 : Nat) : Int), .pointer p3] 27)] [] 7 [.o 0, .o 0, .o 2, .o 2, .o 1, .o 1, .o 1, .o 1] 0 (fun φ13 => [(3, .int .i64 0), (28, .int .i64 0), (27, .agg #[.bool ib, .pointer ip, .int .u64 ((b3 : Nat) : Int), .pointer p3]), (26, .agg #[.int .u64 ((b3 : Nat) : Int), .pointer p3]), (25, .agg #[.bool ib, .pointer ip]), (24, .pointer (some ⟨(φ1 0), 0, none⟩))]) (fun φ13 => [((φ1 0), .cells #[.bool ib, .pointer ip, .int .u64 ((eb : Nat) : Int), .pointer ep] 64), ((φ1 1), .cells #[.bool ib, .pointer ip, .int .u64 ((b3 : Nat) : Int), .pointer p3] 64), ((φ4 0), .cells #[.int .u64 ((b3 : Nat) : Int), .pointer p3] 27)]) (fun φ13 => [(φ1 0), (φ1 0), (φ4 0), (φ4 0), (φ1 1), (φ1 1), (φ1 1), (φ1 1)]) s trivial (fun φ13 => by kernel_rfl) ?_
    intro φ13 w13 s
    refine ops_done (by kernel_rfl) ?_
    refine wp_ret ?_
    refine ret_rule (C := []) [((φ1 0), .cells #[.bool ib, .pointer ip, .int .u64 ((eb : Nat) : Int), .pointer ep] 64), ((φ1 1), .cells #[.bool ib, .pointer ip, .int .u64 ((b3 : Nat) : Int), .pointer p3] 64), ((φ4 0), .cells #[.int .u64 ((b3 : Nat) : Int), .pointer p3] 27)] [] (.tuple #[.agg #[.bool ib, .pointer ip, .int .u64 ((b3 : Nat) : Int), .pointer p3], .int .i64 0]) [.o 1, .o 1, .o 1, .o 1] [(φ1 1), (φ1 1), (φ1 1), (φ1 1)] s trivial (by kernel_rfl) ?_
    exact ⟨_, _, _, rfl, s, (by rw [tickR, if_neg (by rw [hc8]; simp)]; exact ⟨_, _, rfl, h3_0⟩)⟩

theorem splitT_err (t : T) : (splitT t).2.2 ≤ 3 ∧ ((splitT t).2.2 ≠ 0 → (splitT t).1 = .zero ∧ (splitT t).2.1 = .zero) := by
  unfold splitT; split <;> simp

set_option maxHeartbeats 2000000 in
theorem fork_c {I : IM} {i : T} {e : E} {ib : Bool} {ip : Option Addr} {eb : Nat} {ep : Option Addr} (hi : TRep I i ib ip) (he : ERep I e eb ep) (hid : i.depth ≤ 16) : Fun Tryd.prog 57 #[stv ib ip eb ep] I (fun v J => ∃ b1 p1 b2 p2 b3 p3, v = .tuple #[stv b1 p1 b3 p3, stv b2 p2 b3 p3, .int .i64 (((splitT i).2.2 : Nat) : Int)] ∧ TRep J (splitT i).1 b1 p1 ∧ TRep J (splitT i).2.1 b2 p2 ∧ ERep J (if (splitT i).2.2 ≠ 0 then .leaf 0 else e) b3 p3) := by
  have hsb := splitT_err i
  refine enter_rule 28 [(0, .agg #[.bool ib, .pointer ip, .int .u64 ((eb : Nat) : Int), .pointer ep])] Tryd.func57 rfl (by kernel_rfl) ?_
  intro w s
  refine wp_seq ?_
  refine region_rule ?_
  refine ops_rule (C := []) [] [] 4 [] 3 (fun φ1 => [(4, .int .i64 0), (3, .pointer (some ⟨(φ1 2), 0, none⟩)), (2, .pointer (some ⟨(φ1 1), 0, none⟩)), (1, .pointer (some ⟨(φ1 0), 0, none⟩))]) (fun φ1 => [((φ1 0), .cells #[.bool ib, .pointer ip, .int .u64 ((eb : Nat) : Int), .pointer ep] 64), ((φ1 1), .cells #[.bool false, .pointer none, .int .u64 0, .pointer none] 64), ((φ1 2), .cells #[.bool false, .pointer none, .int .u64 0, .pointer none] 64)]) (fun φ1 => []) s trivial (fun φ1 => by kernel_rfl) ?_
  intro φ1 w1 s
  refine ops_done (by kernel_rfl) ?_
  refine wp_seq ?_
  refine region_rule ?_
  refine ops_rule (C := []) [((φ1 0), .cells #[.bool ib, .pointer ip, .int .u64 ((eb : Nat) : Int), .pointer ep] 64), ((φ1 1), .cells #[.bool false, .pointer none, .int .u64 0, .pointer none] 64), ((φ1 2), .cells #[.bool false, .pointer none, .int .u64 0, .pointer none] 64)] [] 2 [.o 0, .o 0] 0 (fun φ2 => [(10, .agg #[.bool ib, .pointer ip]), (9, .pointer (some ⟨(φ1 0), 0, none⟩))]) (fun φ2 => [((φ1 0), .cells #[.bool ib, .pointer ip, .int .u64 ((eb : Nat) : Int), .pointer ep] 64), ((φ1 1), .cells #[.bool false, .pointer none, .int .u64 0, .pointer none] 64), ((φ1 2), .cells #[.bool false, .pointer none, .int .u64 0, .pointer none] 64)]) (fun φ2 => [(φ1 0), (φ1 0)]) s trivial (fun φ2 => by kernel_rfl) ?_
  intro φ2 w2 s
  refine call_rule (some 11) s (split_c hi (by omega)) (by kernel_rfl) ?_
  intro v3 I3 w3 le3 h3 s
  replace hi := TRep.mono le3 hi
  replace he := ERep.mono le3 he
  obtain ⟨b3, p3, d3, q3, rfl, h3_0, h3_1⟩ := h3
  refine ops_rule (C := []) [((φ1 0), .cells #[.bool ib, .pointer ip, .int .u64 ((eb : Nat) : Int), .pointer ep] 64), ((φ1 1), .cells #[.bool false, .pointer none, .int .u64 0, .pointer none] 64), ((φ1 2), .cells #[.bool false, .pointer none, .int .u64 0, .pointer none] 64)] [] 9 [.o 3, .o 3, .o 4, .o 4] 2 (fun φ4 => [(7, .int .i64 (((splitT i).2.2 : Nat) : Int)), (6, .pointer (some ⟨(φ4 1), 0, none⟩)), (5, .pointer (some ⟨(φ4 0), 0, none⟩)), (14, .int .i64 (((splitT i).2.2 : Nat) : Int)), (13, .agg #[.bool d3, .pointer q3]), (12, .agg #[.bool b3, .pointer p3]), (8, .tuple #[.agg #[.bool b3, .pointer p3], .agg #[.bool d3, .pointer q3], .int .i64 (((splitT i).2.2 : Nat) : Int)])]) (fun φ4 => [((φ1 0), .cells #[.bool ib, .pointer ip, .int .u64 ((eb : Nat) : Int), .pointer ep] 64), ((φ1 1), .cells #[.bool false, .pointer none, .int .u64 0, .pointer none] 64), ((φ1 2), .cells #[.bool false, .pointer none, .int .u64 0, .pointer none] 64), ((φ4 0), .cells #[.bool b3, .pointer p3] 62), ((φ4 1), .cells #[.bool d3, .pointer q3] 62)]) (fun φ4 => [(φ4 0), (φ4 0), (φ4 1), (φ4 1)]) s trivial (fun φ4 => by kernel_rfl) ?_
  intro φ4 w4 s
  refine ops_done (by kernel_rfl) ?_
  refine wp_seq ?_
  refine wp_seq ?_
  refine region_rule ?_
  refine ops_rule (C := []) [((φ1 0), .cells #[.bool ib, .pointer ip, .int .u64 ((eb : Nat) : Int), .pointer ep] 64), ((φ1 1), .cells #[.bool false, .pointer none, .int .u64 0, .pointer none] 64), ((φ1 2), .cells #[.bool false, .pointer none, .int .u64 0, .pointer none] 64), ((φ4 0), .cells #[.bool b3, .pointer p3] 62), ((φ4 1), .cells #[.bool d3, .pointer q3] 62)] [] 2 [] 0 (fun φ5 => [(16, .bool ((((splitT i).2.2 : Nat) : Int) != ((0 : Nat) : Int))), (15, .int .i64 (((splitT i).2.2 : Nat) : Int))]) (fun φ5 => [((φ1 0), .cells #[.bool ib, .pointer ip, .int .u64 ((eb : Nat) : Int), .pointer ep] 64), ((φ1 1), .cells #[.bool false, .pointer none, .int .u64 0, .pointer none] 64), ((φ1 2), .cells #[.bool false, .pointer none, .int .u64 0, .pointer none] 64), ((φ4 0), .cells #[.bool b3, .pointer p3] 62), ((φ4 1), .cells #[.bool d3, .pointer q3] 62)]) (fun φ5 => []) s trivial (fun φ5 => by kernel_rfl) ?_
  intro φ5 w5 s
  rw [nat_neq (a := ((splitT i).2.2)) (b := 0)]
  refine ops_done (by kernel_rfl) ?_
  rcases Bool.eq_false_or_eq_true (decide (((splitT i).2.2) ≠ 0)) with hc6 | hc6
  ·
    rw [hc6]
    refine cond_true_rule (b := true) (by kernel_rfl) rfl ?_
    refine wp_seq ?_
    refine region_rule ?_
    refine ops_rule (C := []) [((φ1 0), .cells #[.bool ib, .pointer ip, .int .u64 ((eb : Nat) : Int), .pointer ep] 64), ((φ1 1), .cells #[.bool false, .pointer none, .int .u64 0, .pointer none] 64), ((φ1 2), .cells #[.bool false, .pointer none, .int .u64 0, .pointer none] 64), ((φ4 0), .cells #[.bool b3, .pointer p3] 62), ((φ4 1), .cells #[.bool d3, .pointer q3] 62)] [] 6 [.o 1, .o 1, .o 1, .o 1, .o 2, .o 2, .o 2, .o 2] 0 (fun φ7 => [(4, .int .i64 (((splitT i).2.2 : Nat) : Int)), (19, .int .i64 (((splitT i).2.2 : Nat) : Int)), (18, .agg #[.bool false, .pointer none, .int .u64 0, .pointer none]), (17, .agg #[.bool false, .pointer none, .int .u64 0, .pointer none])]) (fun φ7 => [((φ1 0), .cells #[.bool ib, .pointer ip, .int .u64 ((eb : Nat) : Int), .pointer ep] 64), ((φ1 1), .cells #[.bool false, .pointer none, .int .u64 0, .pointer none] 64), ((φ1 2), .cells #[.bool false, .pointer none, .int .u64 0, .pointer none] 64), ((φ4 0), .cells #[.bool b3, .pointer p3] 62), ((φ4 1), .cells #[.bool d3, .pointer q3] 62)]) (fun φ7 => [(φ1 1), (φ1 1), (φ1 1), (φ1 1), (φ1 2), (φ1 2), (φ1 2), (φ1 2)]) s trivial (fun φ7 => by kernel_rfl) ?_
    intro φ7 w7 s
    refine ops_done (by kernel_rfl) ?_
    refine wp_ret ?_
    refine ret_rule (C := []) [((φ1 0), .cells #[.bool ib, .pointer ip, .int .u64 ((eb : Nat) : Int), .pointer ep] 64), ((φ1 1), .cells #[.bool false, .pointer none, .int .u64 0, .pointer none] 64), ((φ1 2), .cells #[.bool false, .pointer none, .int .u64 0, .pointer none] 64), ((φ4 0), .cells #[.bool b3, .pointer p3] 62), ((φ4 1), .cells #[.bool d3, .pointer q3] 62)] [] (.tuple #[.agg #[.bool false, .pointer none, .int .u64 0, .pointer none], .agg #[.bool false, .pointer none, .int .u64 0, .pointer none], .int .i64 (((splitT i).2.2 : Nat) : Int)]) [.o 1, .o 1, .o 1, .o 1, .o 2, .o 2, .o 2, .o 2] [(φ1 1), (φ1 1), (φ1 1), (φ1 1), (φ1 2), (φ1 2), (φ1 2), (φ1 2)] s trivial (by kernel_rfl) ?_
    exact ⟨_, _, _, rfl, s, (by have hz := hsb.2 (of_decide_eq_true hc6); rw [hz.1, hz.2, if_pos (of_decide_eq_true hc6)]; exact ⟨_, _, _, _, _, _, rfl, ⟨rfl, rfl⟩, ⟨rfl, rfl⟩, ⟨rfl, rfl⟩⟩)⟩
  ·
    rw [hc6]
    refine cond_false_rule (b := false) (by kernel_rfl) rfl ?_
    refine wp_skip ?_
    refine wp_seq ?_
    refine draw_rule (C := []) ⟨(fun φ8 xs8 => [.look 0 [.o 3, .o 3] [(φ4 0), (φ4 0)], .look 0 [] [], .look 0 [.o 0, .o 0] [(φ1 0), (φ1 0)], .look 0 [] [], .look 0 [.o 4, .o 4] [(φ4 1), (φ4 1)], .look 0 [] [], .look 0 [.o 0, .o 0] [(φ1 0), (φ1 0)], .look 0 [] [], .store 0 [.o 1, .o 1, .o 1, .o 1] [(φ1 1), (φ1 1), (φ1 1), (φ1 1)], .store 1 [.o 2, .o 2, .o 2, .o 2] [(φ1 2), (φ1 2), (φ1 2), (φ1 2)], .look 2 [] []]), (fun φ8 xs8 => [.agg #[.bool b3, .pointer p3], .pointer (some ⟨(φ1 0), 2, none⟩), .agg #[.int .u64 ((eb : Nat) : Int), .pointer ep], .agg #[.bool b3, .pointer p3, .int .u64 ((eb : Nat) : Int), .pointer ep], .agg #[.bool d3, .pointer q3], .pointer (some ⟨(φ1 0), 2, none⟩), .agg #[.int .u64 ((eb : Nat) : Int), .pointer ep], .agg #[.bool d3, .pointer q3, .int .u64 ((eb : Nat) : Int), .pointer ep], undef, undef, .int .i64 0]), (fun φ8 xs8 => [[((φ1 0), .cells #[.bool ib, .pointer ip, .int .u64 ((eb : Nat) : Int), .pointer ep] 64), ((φ1 1), .cells #[.bool false, .pointer none, .int .u64 0, .pointer none] 64), ((φ1 2), .cells #[.bool false, .pointer none, .int .u64 0, .pointer none] 64), ((φ4 0), .cells #[.bool b3, .pointer p3] 62), ((φ4 1), .cells #[.bool d3, .pointer q3] 62)], [((φ1 0), .cells #[.bool ib, .pointer ip, .int .u64 ((eb : Nat) : Int), .pointer ep] 64), ((φ1 1), .cells #[.bool b3, .pointer p3, .int .u64 ((eb : Nat) : Int), .pointer ep] 64), ((φ1 2), .cells #[.bool false, .pointer none, .int .u64 0, .pointer none] 64), ((φ4 0), .cells #[.bool b3, .pointer p3] 62), ((φ4 1), .cells #[.bool d3, .pointer q3] 62)], [((φ1 0), .cells #[.bool ib, .pointer ip, .int .u64 ((eb : Nat) : Int), .pointer ep] 64), ((φ1 1), .cells #[.bool b3, .pointer p3, .int .u64 ((eb : Nat) : Int), .pointer ep] 64), ((φ1 2), .cells #[.bool d3, .pointer q3, .int .u64 ((eb : Nat) : Int), .pointer ep] 64), ((φ4 0), .cells #[.bool b3, .pointer p3] 62), ((φ4 1), .cells #[.bool d3, .pointer q3] 62)]]), (fun φ8 xs8 => [[default, default, default, default, default, default, default, default, default, default, default], [default, default, default, default, default, default, default, default, default, default, default], [default, default, default, default, default, default, default, default, default, default, default]]), [8, 9], [1, 1, 1, 1, 1, 1, 1, 1, 4, 4, 1]⟩ (fun j => ([MP.any, MP.any, MP.any, MP.any, MP.any, MP.any, MP.any, MP.any, MP.any, MP.any, MP.any] : List MP).getD j MP.any) [] [] [] (fun φ8 xs8 => [[none, none, none, none, none, none, none, none, none, none, none], [none, none, none, none, none, none, none, none, none, none, none]]) (fun φ8 xs8 => [(20, .agg #[.bool b3, .pointer p3]), (21, .pointer (some ⟨(φ1 0), 2, none⟩)), (22, .agg #[.int .u64 ((eb : Nat) : Int), .pointer ep]), (23, .agg #[.bool b3, .pointer p3, .int .u64 ((eb : Nat) : Int), .pointer ep]), (24, .agg #[.bool d3, .pointer q3]), (25, .pointer (some ⟨(φ1 0), 2, none⟩)), (26, .agg #[.int .u64 ((eb : Nat) : Int), .pointer ep]), (27, .agg #[.bool d3, .pointer q3, .int .u64 ((eb : Nat) : Int), .pointer ep]), (4, .int .i64 0)]) (fun φ8 xs8 => [((φ1 0), .cells #[.bool ib, .pointer ip, .int .u64 ((eb : Nat) : Int), .pointer ep] 64), ((φ1 1), .cells #[.bool b3, .pointer p3, .int .u64 ((eb : Nat) : Int), .pointer ep] 64), ((φ1 2), .cells #[.bool d3, .pointer q3, .int .u64 ((eb : Nat) : Int), .pointer ep] 64), ((φ4 0), .cells #[.bool b3, .pointer p3] 62), ((φ4 1), .cells #[.bool d3, .pointer q3] 62)]) s trivial (by kernel_rfl) (by kernel_rfl) (fun _ _ => by kernel_rfl) (fun _ _ => by kernel_rfl) ⟨fun _ _ => by kernel_rfl, fun _ _ => by kernel_rfl, fun _ _ => by kernel_rfl, fun _ _ => by kernel_rfl⟩ (fun _ _ _ => by kernel_rfl) (fun _ _ => by kernel_rfl) (fun _ _ => by kernel_rfl) (fun _ _ => by kernel_rfl) (fun _ _ => by kernel_rfl) (fun _ _ => by kernel_rfl) trivial trivial trivial ?k8
    case k8 =>
      rintro φ8 xs8 I8 w8 le8 s 
      replace hi := TRep.mono le8 hi
      replace he := ERep.mono le8 he
      replace h3_0 := TRep.mono le8 h3_0
      replace h3_1 := TRep.mono le8 h3_1
      refine wp_ret ?_
      refine ret_rule (C := []) [((φ1 0), .cells #[.bool ib, .pointer ip, .int .u64 ((eb : Nat) : Int), .pointer ep] 64), ((φ1 1), .cells #[.bool b3, .pointer p3, .int .u64 ((eb : Nat) : Int), .pointer ep] 64), ((φ1 2), .cells #[.bool d3, .pointer q3, .int .u64 ((eb : Nat) : Int), .pointer ep] 64), ((φ4 0), .cells #[.bool b3, .pointer p3] 62), ((φ4 1), .cells #[.bool d3, .pointer q3] 62)] [] (.tuple #[.agg #[.bool b3, .pointer p3, .int .u64 ((eb : Nat) : Int), .pointer ep], .agg #[.bool d3, .pointer q3, .int .u64 ((eb : Nat) : Int), .pointer ep], .int .i64 0]) [.o 1, .o 1, .o 1, .o 1, .o 2, .o 2, .o 2, .o 2] [(φ1 1), (φ1 1), (φ1 1), (φ1 1), (φ1 2), (φ1 2), (φ1 2), (φ1 2)] s trivial (by kernel_rfl) ?_
      have hz : (splitT i).2.2 = 0 := by have := of_decide_eq_false hc6; omega
      exact ⟨_, _, _, rfl, s, (by rw [if_neg (by rw [hz]; simp)]; exact ⟨_, _, _, _, _, _, by rw [hz]; rfl, h3_0, h3_1, he⟩)⟩

set_option maxHeartbeats 400000 in
theorem seed_c {I : IM} : Fun Tryd.prog 62 #[] I (fun v J => v = stv true none 0 none) := by
  refine enter_rule 3 [] Tryd.func62 rfl (by kernel_rfl) ?_
  intro w s
  refine wp_seq ?_
  refine region_rule ?_
  refine ops_rule (C := []) [] [] 1 [] 1 (fun φ1 => [(0, .pointer (some ⟨(φ1 0), 0, none⟩))]) (fun φ1 => [((φ1 0), .cells #[.bool false, .pointer none, .int .u64 0, .pointer none] 64)]) (fun φ1 => []) s trivial (fun φ1 => by kernel_rfl) ?_
  intro φ1 w1 s
  refine ops_done (by kernel_rfl) ?_
  refine wp_seq ?_
  refine region_rule ?_
  refine call_rule (some 1) s (tone_c) (by kernel_rfl) ?_
  intro v2 I2 w2 le2 h2 s
  obtain rfl := h2
  refine ops_rule (C := []) [((φ1 0), .cells #[.bool false, .pointer none, .int .u64 0, .pointer none] 64)] [] 2 [.o 0, .o 0, .o 0, .o 0] 0 (fun φ3 => [(2, .agg #[.bool true, .pointer none, .int .u64 0, .pointer none])]) (fun φ3 => [((φ1 0), .cells #[.bool true, .pointer none, .int .u64 0, .pointer none] 64)]) (fun φ3 => [(φ1 0), (φ1 0), (φ1 0), (φ1 0)]) s trivial (fun φ3 => by kernel_rfl) ?_
  intro φ3 w3 s
  refine ops_done (by kernel_rfl) ?_
  refine wp_ret ?_
  refine ret_rule (C := []) [((φ1 0), .cells #[.bool true, .pointer none, .int .u64 0, .pointer none] 64)] [] (.agg #[.bool true, .pointer none, .int .u64 0, .pointer none]) [.o 0, .o 0, .o 0, .o 0] [(φ1 0), (φ1 0), (φ1 0), (φ1 0)] s trivial (by kernel_rfl) ?_
  exact ⟨_, _, _, rfl, s, rfl⟩

def sameT (A B : T) : Bool := coverT A B && coverT B A
def sameE (A B : E) : Bool := leqF 64 A B && leqF 64 B A

set_option maxHeartbeats 1000000 in
theorem sleq_c {I : IM} {A B : T} {C D : E} {ba bb : Bool} {pa pb : Option Addr} {bc bd : Nat} {pc pd : Option Addr} (hA : TRep I A ba pa) (hB : TRep I B bb pb) (hC : ERep I C bc pc) (hD : ERep I D bd pd) (hdC : C.depth ≤ 16) (hdD : D.depth ≤ 16) (htC : C.top ≤ 1048576) (htD : D.top ≤ 1048576) : Fun Tryd.prog 51 #[stv ba pa bc pc, stv bb pb bd pd] I (fun v J => v = .bool (leqF 64 C D)) := by
  refine enter_rule 10 [(0, .agg #[.bool ba, .pointer pa, .int .u64 ((bc : Nat) : Int), .pointer pc]), (1, .agg #[.bool bb, .pointer pb, .int .u64 ((bd : Nat) : Int), .pointer pd])] Tryd.func51 rfl (by kernel_rfl) ?_
  intro w s
  refine wp_seq ?_
  refine region_rule ?_
  refine ops_rule (C := []) [] [] 3 [] 2 (fun φ1 => [(4, .bool false), (3, .pointer (some ⟨(φ1 1), 0, none⟩)), (2, .pointer (some ⟨(φ1 0), 0, none⟩))]) (fun φ1 => [((φ1 0), .cells #[.bool ba, .pointer pa, .int .u64 ((bc : Nat) : Int), .pointer pc] 64), ((φ1 1), .cells #[.bool bb, .pointer pb, .int .u64 ((bd : Nat) : Int), .pointer pd] 64)]) (fun φ1 => []) s trivial (fun φ1 => by kernel_rfl) ?_
  intro φ1 w1 s
  refine ops_done (by kernel_rfl) ?_
  refine wp_seq ?_
  refine region_rule ?_
  refine ops_rule (C := []) [((φ1 0), .cells #[.bool ba, .pointer pa, .int .u64 ((bc : Nat) : Int), .pointer pc] 64), ((φ1 1), .cells #[.bool bb, .pointer pb, .int .u64 ((bd : Nat) : Int), .pointer pd] 64)] [] 4 [.o 0, .o 0, .o 1, .o 1] 0 (fun φ2 => [(8, .agg #[.int .u64 ((bd : Nat) : Int), .pointer pd]), (7, .pointer (some ⟨(φ1 1), 2, none⟩)), (6, .agg #[.int .u64 ((bc : Nat) : Int), .pointer pc]), (5, .pointer (some ⟨(φ1 0), 2, none⟩))]) (fun φ2 => [((φ1 0), .cells #[.bool ba, .pointer pa, .int .u64 ((bc : Nat) : Int), .pointer pc] 64), ((φ1 1), .cells #[.bool bb, .pointer pb, .int .u64 ((bd : Nat) : Int), .pointer pd] 64)]) (fun φ2 => [(φ1 0), (φ1 0), (φ1 1), (φ1 1)]) s trivial (fun φ2 => by kernel_rfl) ?_
  intro φ2 w2 s
  refine call_rule (some 9) s (leqF_c 64 (by omega) (by omega) (by omega) hC hD) (by kernel_rfl) ?_
  intro v3 I3 w3 le3 h3 s
  replace hA := TRep.mono le3 hA
  replace hB := TRep.mono le3 hB
  replace hC := ERep.mono le3 hC
  replace hD := ERep.mono le3 hD
  obtain rfl := h3
  refine ops_rule (C := []) [((φ1 0), .cells #[.bool ba, .pointer pa, .int .u64 ((bc : Nat) : Int), .pointer pc] 64), ((φ1 1), .cells #[.bool bb, .pointer pb, .int .u64 ((bd : Nat) : Int), .pointer pd] 64)] [] 1 [] 0 (fun φ4 => [(4, .bool (leqF 64 C D))]) (fun φ4 => [((φ1 0), .cells #[.bool ba, .pointer pa, .int .u64 ((bc : Nat) : Int), .pointer pc] 64), ((φ1 1), .cells #[.bool bb, .pointer pb, .int .u64 ((bd : Nat) : Int), .pointer pd] 64)]) (fun φ4 => []) s trivial (fun φ4 => by kernel_rfl) ?_
  intro φ4 w4 s
  refine ops_done (by kernel_rfl) ?_
  refine wp_ret ?_
  refine ret_rule (C := []) [((φ1 0), .cells #[.bool ba, .pointer pa, .int .u64 ((bc : Nat) : Int), .pointer pc] 64), ((φ1 1), .cells #[.bool bb, .pointer pb, .int .u64 ((bd : Nat) : Int), .pointer pd] 64)] [] (.bool (leqF 64 C D)) [] [] s trivial (by kernel_rfl) ?_
  exact ⟨_, _, _, rfl, s, rfl⟩

set_option maxHeartbeats 1000000 in
theorem ssame_c {I : IM} {A B : T} {C D : E} {ba bb : Bool} {pa pb : Option Addr} {bc bd : Nat} {pc pd : Option Addr} (hA : TRep I A ba pa) (hB : TRep I B bb pb) (hC : ERep I C bc pc) (hD : ERep I D bd pd) (hdC : C.depth ≤ 16) (hdD : D.depth ≤ 16) (htC : C.top ≤ 1048576) (htD : D.top ≤ 1048576) : Fun Tryd.prog 49 #[stv ba pa bc pc, stv bb pb bd pd] I (fun v J => v = .bool (sameT A B && sameE C D)) := by
  refine enter_rule 17 [(0, .agg #[.bool ba, .pointer pa, .int .u64 ((bc : Nat) : Int), .pointer pc]), (1, .agg #[.bool bb, .pointer pb, .int .u64 ((bd : Nat) : Int), .pointer pd])] Tryd.func49 rfl (by kernel_rfl) ?_
  intro w s
  refine wp_seq ?_
  refine region_rule ?_
  refine ops_rule (C := []) [] [] 3 [] 2 (fun φ1 => [(4, .bool false), (3, .pointer (some ⟨(φ1 1), 0, none⟩)), (2, .pointer (some ⟨(φ1 0), 0, none⟩))]) (fun φ1 => [((φ1 0), .cells #[.bool ba, .pointer pa, .int .u64 ((bc : Nat) : Int), .pointer pc] 64), ((φ1 1), .cells #[.bool bb, .pointer pb, .int .u64 ((bd : Nat) : Int), .pointer pd] 64)]) (fun φ1 => []) s trivial (fun φ1 => by kernel_rfl) ?_
  intro φ1 w1 s
  refine ops_done (by kernel_rfl) ?_
  refine wp_seq ?_
  refine region_rule ?_
  refine ops_rule (C := []) [((φ1 0), .cells #[.bool ba, .pointer pa, .int .u64 ((bc : Nat) : Int), .pointer pc] 64), ((φ1 1), .cells #[.bool bb, .pointer pb, .int .u64 ((bd : Nat) : Int), .pointer pd] 64)] [] 4 [.o 0, .o 0, .o 1, .o 1] 0 (fun φ2 => [(8, .agg #[.bool bb, .pointer pb]), (7, .pointer (some ⟨(φ1 1), 0, none⟩)), (6, .agg #[.bool ba, .pointer pa]), (5, .pointer (some ⟨(φ1 0), 0, none⟩))]) (fun φ2 => [((φ1 0), .cells #[.bool ba, .pointer pa, .int .u64 ((bc : Nat) : Int), .pointer pc] 64), ((φ1 1), .cells #[.bool bb, .pointer pb, .int .u64 ((bd : Nat) : Int), .pointer pd] 64)]) (fun φ2 => [(φ1 0), (φ1 0), (φ1 1), (φ1 1)]) s trivial (fun φ2 => by kernel_rfl) ?_
  intro φ2 w2 s
  refine call_rule (some 9) s (idsame_c hA hB) (by kernel_rfl) ?_
  intro v3 I3 w3 le3 h3 s
  replace hA := TRep.mono le3 hA
  replace hB := TRep.mono le3 hB
  replace hC := ERep.mono le3 hC
  replace hD := ERep.mono le3 hD
  obtain rfl := h3
  refine ops_rule (C := []) [((φ1 0), .cells #[.bool ba, .pointer pa, .int .u64 ((bc : Nat) : Int), .pointer pc] 64), ((φ1 1), .cells #[.bool bb, .pointer pb, .int .u64 ((bd : Nat) : Int), .pointer pd] 64)] [] 1 [] 0 (fun φ4 => [(10, .bool (coverT A B && coverT B A))]) (fun φ4 => [((φ1 0), .cells #[.bool ba, .pointer pa, .int .u64 ((bc : Nat) : Int), .pointer pc] 64), ((φ1 1), .cells #[.bool bb, .pointer pb, .int .u64 ((bd : Nat) : Int), .pointer pd] 64)]) (fun φ4 => []) s trivial (fun φ4 => by kernel_rfl) ?_
  intro φ4 w4 s
  rcases Bool.eq_false_or_eq_true ((coverT A B && coverT B A)) with hc5 | hc5
  ·
    rw [hc5]
    refine ops_rule (C := []) [((φ1 0), .cells #[.bool ba, .pointer pa, .int .u64 ((bc : Nat) : Int), .pointer pc] 64), ((φ1 1), .cells #[.bool bb, .pointer pb, .int .u64 ((bd : Nat) : Int), .pointer pd] 64)] [] 4 [.o 0, .o 0, .o 1, .o 1] 0 (fun φ6 => [(14, .agg #[.int .u64 ((bd : Nat) : Int), .pointer pd]), (13, .pointer (some ⟨(φ1 1), 2, none⟩)), (12, .agg #[.int .u64 ((bc : Nat) : Int), .pointer pc]), (11, .pointer (some ⟨(φ1 0), 2, none⟩))]) (fun φ6 => [((φ1 0), .cells #[.bool ba, .pointer pa, .int .u64 ((bc : Nat) : Int), .pointer pc] 64), ((φ1 1), .cells #[.bool bb, .pointer pb, .int .u64 ((bd : Nat) : Int), .pointer pd] 64)]) (fun φ6 => [(φ1 0), (φ1 0), (φ1 1), (φ1 1)]) s trivial (fun φ6 => by kernel_rfl) ?_
    intro φ6 w6 s
    refine call_rule (some 15) s (same_c hC hD (by omega) (by omega) (by omega) (by omega)) (by kernel_rfl) ?_
    intro v7 I7 w7 le7 h7 s
    replace hA := TRep.mono le7 hA
    replace hB := TRep.mono le7 hB
    replace hC := ERep.mono le7 hC
    replace hD := ERep.mono le7 hD
    obtain rfl := h7
    refine ops_rule (C := []) [((φ1 0), .cells #[.bool ba, .pointer pa, .int .u64 ((bc : Nat) : Int), .pointer pc] 64), ((φ1 1), .cells #[.bool bb, .pointer pb, .int .u64 ((bd : Nat) : Int), .pointer pd] 64)] [] 2 [] 0 (fun φ8 => [(4, .bool (leqF 64 C D && leqF 64 D C)), (16, .bool (leqF 64 C D && leqF 64 D C))]) (fun φ8 => [((φ1 0), .cells #[.bool ba, .pointer pa, .int .u64 ((bc : Nat) : Int), .pointer pc] 64), ((φ1 1), .cells #[.bool bb, .pointer pb, .int .u64 ((bd : Nat) : Int), .pointer pd] 64)]) (fun φ8 => []) s trivial (fun φ8 => by kernel_rfl) ?_
    intro φ8 w8 s
    refine ops_done (by kernel_rfl) ?_
    refine wp_ret ?_
    refine ret_rule (C := []) [((φ1 0), .cells #[.bool ba, .pointer pa, .int .u64 ((bc : Nat) : Int), .pointer pc] 64), ((φ1 1), .cells #[.bool bb, .pointer pb, .int .u64 ((bd : Nat) : Int), .pointer pd] 64)] [] (.bool (leqF 64 C D && leqF 64 D C)) [] [] s trivial (by kernel_rfl) ?_
    exact ⟨_, _, _, rfl, s, (by simp only [sameT, sameE, hc5, Bool.true_and, Bool.false_and]; try rfl)⟩
  ·
    rw [hc5]
    refine ops_rule (C := []) [((φ1 0), .cells #[.bool ba, .pointer pa, .int .u64 ((bc : Nat) : Int), .pointer pc] 64), ((φ1 1), .cells #[.bool bb, .pointer pb, .int .u64 ((bd : Nat) : Int), .pointer pd] 64)] [] 7 [] 0 (fun φ9 => [(4, .bool false), (16, .bool false), (15, undef), (14, undef), (13, undef), (12, undef), (11, undef)]) (fun φ9 => [((φ1 0), .cells #[.bool ba, .pointer pa, .int .u64 ((bc : Nat) : Int), .pointer pc] 64), ((φ1 1), .cells #[.bool bb, .pointer pb, .int .u64 ((bd : Nat) : Int), .pointer pd] 64)]) (fun φ9 => []) s trivial (fun φ9 => by kernel_rfl) ?_
    intro φ9 w9 s
    refine ops_done (by kernel_rfl) ?_
    refine wp_ret ?_
    refine ret_rule (C := []) [((φ1 0), .cells #[.bool ba, .pointer pa, .int .u64 ((bc : Nat) : Int), .pointer pc] 64), ((φ1 1), .cells #[.bool bb, .pointer pb, .int .u64 ((bd : Nat) : Int), .pointer pd] 64)] [] (.bool false) [] [] s trivial (by kernel_rfl) ?_
    exact ⟨_, _, _, rfl, s, (by simp only [sameT, sameE, hc5, Bool.true_and, Bool.false_and]; try rfl)⟩

end Go.Proofs.YtgdickihjaomjaaDoor
