/- The document's Leq, Same, Depth, Check, Tick; StampTicks. -/
import Derived.Test.YtgdickihjaomjaaDoorTkP23
import Derived.Test.YtgdickihjaomjaaDoorTkP22
import Derived.Test.YtgdickihjaomjaaDoorTkP19
set_option linter.all false
set_option maxRecDepth 100000
namespace Go.Proofs.YtgdickihjaomjaaDoor
open Go.RowKit Go.Sep

set_option maxHeartbeats 2000000 in
theorem rleq_step {I : IM} {n : Nat} {A B : E} {ka kb : Nat} (ha : RE I A ka) (hb : RE I B kb) (hdA : A.depth ≤ n + 1) (hdB : B.depth ≤ n + 1) (htA : A.top < 18446744073709551616) (htB : B.top < 18446744073709551616) (ih : ∀ {I : IM} {A B : E} {ka kb : Nat}, A.top < 18446744073709551616 → B.top < 18446744073709551616 → A.depth ≤ n → B.depth ≤ n → RE I A ka → RE I B kb → Fun Tryd.prog 112 #[.pointer (some ⟨ka, 0, none⟩), .pointer (some ⟨kb, 0, none⟩)] I (fun v J => v = .bool (rleqF n A B))) : Fun Tryd.prog 112 #[.pointer (some ⟨ka, 0, none⟩), .pointer (some ⟨kb, 0, none⟩)] I (fun v J => v = .bool (rleqF (n + 1) A B)) := by
  have hta := half_top A
  have htb := half_top B
  have hda := E.half_depth A n hdA
  have hdb := E.half_depth B n hdB
  cases A with
  | leaf a =>
    cases B with
    | leaf b =>
      have ha0 : RE _ (E.leaf a) ka := ha
      have hb0 : RE _ (E.leaf b) kb := hb
      refine enter_rule 38 [(0, .pointer (some ⟨ka, 0, none⟩)), (1, .pointer (some ⟨kb, 0, none⟩))] Tryd.func112 rfl (by kernel_rfl) ?_
      intro w s
      refine wp_seq ?_
      refine region_rule ?_
      refine ops_rule (C := []) [] [] 1 [] 0 (fun φ1 => [(4, .bool false)]) (fun φ1 => []) (fun φ1 => []) s trivial (fun φ1 => by kernel_rfl) ?_
      intro φ1 w1 s
      refine ops_done (by kernel_rfl) ?_
      refine wp_seq ?_
      refine wp_seq ?_
      refine region_rule ?_
      refine ops_rule (C := [(ka, .cells #[.int .u64 ((a : Nat) : Int), .pointer none, .pointer none] 112), (kb, .cells #[.int .u64 ((b : Nat) : Int), .pointer none, .pointer none] 112)]) [] [] 12 [.c 0, .c 1] 0 (fun φ2 => [(16, .bool true), (15, .bool true), (14, .pointer none), (13, .pointer (some ⟨kb, 1, none⟩)), (12, .pointer (some ⟨kb, 0, none⟩)), (11, .pointer (some ⟨kb, 0, none⟩)), (10, .bool true), (9, .bool true), (8, .pointer none), (7, .pointer (some ⟨ka, 1, none⟩)), (6, .pointer (some ⟨ka, 0, none⟩)), (5, .pointer (some ⟨ka, 0, none⟩))]) (fun φ2 => []) (fun φ2 => [ka, kb]) s ⟨ha, ⟨hb, trivial⟩⟩ (fun φ2 => by kernel_rfl) ?_
      intro φ2 w2 s
      refine ops_done (by kernel_rfl) ?_
      refine cond_true_rule (b := true) (by kernel_rfl) rfl ?_
      refine wp_seq ?_
      refine draw_rule (C := [(ka, .cells #[.int .u64 ((a : Nat) : Int), .pointer none, .pointer none] 112), (kb, .cells #[.int .u64 ((b : Nat) : Int), .pointer none, .pointer none] 112)]) ⟨(fun φ3 xs3 => [.look 0 [] [], .look 0 [] [], .look 0 [] [], .look 0 [.c 0] [ka], .look 0 [] [], .look 0 [] [], .look 0 [] [], .look 0 [.c 1] [kb], .sub 0 [] [] (.bool (decide (((a : Nat) : Int) ≤ ((b : Nat) : Int)))), .look 0 [] []]), (fun φ3 xs3 => [.pointer (some ⟨ka, 0, none⟩), .pointer (some ⟨ka, 0, none⟩), .pointer (some ⟨ka, 0, none⟩), .int .u64 ((a : Nat) : Int), .pointer (some ⟨kb, 0, none⟩), .pointer (some ⟨kb, 0, none⟩), .pointer (some ⟨kb, 0, none⟩), .int .u64 ((b : Nat) : Int), .bool (decide (a ≤ b)), .bool (decide (a ≤ b))]), (fun φ3 xs3 => [[]]), (fun φ3 xs3 => [[default, default, default, default, default, default, default, default, default, default]]), [], [1, 1, 1, 1, 1, 1, 1, 1, 5, 1]⟩ (fun j => ([MP.any, MP.any, MP.any, MP.any, MP.any, MP.any, MP.any, MP.any, MP.any, MP.any] : List MP).getD j MP.any) [] [8] [] (fun φ3 xs3 => []) (fun φ3 xs3 => [(17, .pointer (some ⟨ka, 0, none⟩)), (18, .pointer (some ⟨ka, 0, none⟩)), (19, .pointer (some ⟨ka, 0, none⟩)), (20, .int .u64 ((a : Nat) : Int)), (21, .pointer (some ⟨kb, 0, none⟩)), (22, .pointer (some ⟨kb, 0, none⟩)), (23, .pointer (some ⟨kb, 0, none⟩)), (24, .int .u64 ((b : Nat) : Int)), (25, .bool (decide (a ≤ b))), (4, .bool (decide (a ≤ b)))]) (fun φ3 xs3 => []) s ⟨ha, ⟨hb, trivial⟩⟩ (by kernel_rfl) (by kernel_rfl) (fun _ _ => by kernel_rfl) (fun _ _ => by kernel_rfl) ⟨fun _ _ => by kernel_rfl, fun _ _ => by kernel_rfl, fun _ _ => by kernel_rfl, fun _ _ => by kernel_rfl⟩ (fun _ _ _ => by kernel_rfl) (fun _ _ => by kernel_rfl) (fun _ _ => by kernel_rfl) (fun _ _ => by kernel_rfl) (fun _ _ => by kernel_rfl) (fun _ _ => by kernel_rfl) ⟨kcast (A := ∀ (φ3 : Nat → Nat) (xs3 : Xs), (.bool (decide (((a : Nat) : Int) ≤ ((b : Nat) : Int))) : Value) = .bool (decide (a ≤ b))) (by kernel_rfl) (fun φ3 xs3 => congrArg Value.bool ((nat_leq (a := a) (b := b)))), trivial⟩ trivial trivial ?k3
      case k3 =>
        rintro φ3 xs3 I3 w3 le3 s 
        replace ha0 := RE.mono le3 ha0
        replace hb0 := RE.mono le3 hb0
        replace ha := le3 _ _ ha
        replace hb := le3 _ _ hb
        refine wp_ret ?_
        refine ret_rule (C := []) [] [] (.bool (decide (a ≤ b))) [] [] s trivial (by kernel_rfl) ?_
        exact ⟨_, _, _, rfl, s, (by show _ = Value.bool (rleqF (n + 1) (E.leaf a) (E.leaf b)); rfl)⟩
    | node b b1 b2 =>
      have ha0 : RE _ (E.leaf a) ka := ha
      have hb0 : RE _ (E.node b b1 b2) kb := hb
      obtain ⟨kb1, kb2, hbk, hb1, hb2⟩ := hb
      refine enter_rule 38 [(0, .pointer (some ⟨ka, 0, none⟩)), (1, .pointer (some ⟨kb, 0, none⟩))] Tryd.func112 rfl (by kernel_rfl) ?_
      intro w s
      refine wp_seq ?_
      refine region_rule ?_
      refine ops_rule (C := []) [] [] 1 [] 0 (fun φ1 => [(4, .bool false)]) (fun φ1 => []) (fun φ1 => []) s trivial (fun φ1 => by kernel_rfl) ?_
      intro φ1 w1 s
      refine ops_done (by kernel_rfl) ?_
      refine wp_seq ?_
      refine wp_seq ?_
      refine region_rule ?_
      refine ops_rule (C := [(ka, .cells #[.int .u64 ((a : Nat) : Int), .pointer none, .pointer none] 112), (kb, .cells #[.int .u64 ((b : Nat) : Int), .pointer (some ⟨kb1, 0, none⟩), .pointer (some ⟨kb2, 0, none⟩)] 112)]) [] [] 12 [.c 0, .c 1] 0 (fun φ2 => [(16, .bool false), (15, .bool false), (14, .pointer (some ⟨kb1, 0, none⟩)), (13, .pointer (some ⟨kb, 1, none⟩)), (12, .pointer (some ⟨kb, 0, none⟩)), (11, .pointer (some ⟨kb, 0, none⟩)), (10, .bool true), (9, .bool true), (8, .pointer none), (7, .pointer (some ⟨ka, 1, none⟩)), (6, .pointer (some ⟨ka, 0, none⟩)), (5, .pointer (some ⟨ka, 0, none⟩))]) (fun φ2 => []) (fun φ2 => [ka, kb]) s ⟨ha, ⟨hbk, trivial⟩⟩ (fun φ2 => by kernel_rfl) ?_
      intro φ2 w2 s
      refine ops_done (by kernel_rfl) ?_
      refine cond_false_rule (b := false) (by kernel_rfl) rfl ?_
      refine wp_skip ?_
      refine wp_seq ?_
      refine region_rule ?_
      refine ops_rule (C := []) [] [] 1 [] 0 (fun φ3 => [(26, .pointer (some ⟨ka, 0, none⟩))]) (fun φ3 => []) (fun φ3 => []) s trivial (fun φ3 => by kernel_rfl) ?_
      intro φ3 w3 s
      refine call_rule (some 27) s (reLeft_c ha0 (by omega)) (by kernel_rfl) ?_
      intro v4 I4 w4 le4 h4 s
      replace ha0 := RE.mono le4 ha0
      replace hb1 := RE.mono le4 hb1
      replace hb2 := RE.mono le4 hb2
      replace hb0 := RE.mono le4 hb0
      replace ha := le4 _ _ ha
      replace hbk := le4 _ _ hbk
      obtain ⟨k4, rfl, h4_0⟩ := h4
      refine ops_rule (C := []) [] [] 1 [] 0 (fun φ5 => [(28, .pointer (some ⟨kb, 0, none⟩))]) (fun φ5 => []) (fun φ5 => []) s trivial (fun φ5 => by kernel_rfl) ?_
      intro φ5 w5 s
      refine call_rule (some 29) s (reLeft_c hb0 (by omega)) (by kernel_rfl) ?_
      intro v6 I6 w6 le6 h6 s
      replace ha0 := RE.mono le6 ha0
      replace hb1 := RE.mono le6 hb1
      replace hb2 := RE.mono le6 hb2
      replace hb0 := RE.mono le6 hb0
      replace h4_0 := RE.mono le6 h4_0
      replace ha := le6 _ _ ha
      replace hbk := le6 _ _ hbk
      obtain ⟨k6, rfl, h6_0⟩ := h6
      refine call_rule (some 30) s (ih (by omega) (by omega) hda.1 hdb.1 h4_0 h6_0) (by kernel_rfl) ?_
      intro v7 I7 w7 le7 h7 s
      replace ha0 := RE.mono le7 ha0
      replace hb1 := RE.mono le7 hb1
      replace hb2 := RE.mono le7 hb2
      replace hb0 := RE.mono le7 hb0
      replace h4_0 := RE.mono le7 h4_0
      replace h6_0 := RE.mono le7 h6_0
      replace ha := le7 _ _ ha
      replace hbk := le7 _ _ hbk
      obtain rfl := h7
      refine ops_rule (C := []) [] [] 1 [] 0 (fun φ8 => [(31, .bool (rleqF n (E.up (E.base (E.leaf a)) (E.left (E.leaf a))) (E.up (E.base (E.node b b1 b2)) (E.left (E.node b b1 b2)))))]) (fun φ8 => []) (fun φ8 => []) s trivial (fun φ8 => by kernel_rfl) ?_
      intro φ8 w8 s
      rcases Bool.eq_false_or_eq_true (rleqF n (E.up (E.base (E.leaf a)) (E.left (E.leaf a))) (E.up (E.base (E.node b b1 b2)) (E.left (E.node b b1 b2)))) with hc9 | hc9
      ·
        rw [hc9]
        refine ops_rule (C := []) [] [] 1 [] 0 (fun φ10 => [(32, .pointer (some ⟨ka, 0, none⟩))]) (fun φ10 => []) (fun φ10 => []) s trivial (fun φ10 => by kernel_rfl) ?_
        intro φ10 w10 s
        refine call_rule (some 33) s (reRight_c ha0 (by omega)) (by kernel_rfl) ?_
        intro v11 I11 w11 le11 h11 s
        replace ha0 := RE.mono le11 ha0
        replace hb1 := RE.mono le11 hb1
        replace hb2 := RE.mono le11 hb2
        replace hb0 := RE.mono le11 hb0
        replace h4_0 := RE.mono le11 h4_0
        replace h6_0 := RE.mono le11 h6_0
        replace ha := le11 _ _ ha
        replace hbk := le11 _ _ hbk
        obtain ⟨k11, rfl, h11_0⟩ := h11
        refine ops_rule (C := []) [] [] 1 [] 0 (fun φ12 => [(34, .pointer (some ⟨kb, 0, none⟩))]) (fun φ12 => []) (fun φ12 => []) s trivial (fun φ12 => by kernel_rfl) ?_
        intro φ12 w12 s
        refine call_rule (some 35) s (reRight_c hb0 (by omega)) (by kernel_rfl) ?_
        intro v13 I13 w13 le13 h13 s
        replace ha0 := RE.mono le13 ha0
        replace hb1 := RE.mono le13 hb1
        replace hb2 := RE.mono le13 hb2
        replace hb0 := RE.mono le13 hb0
        replace h4_0 := RE.mono le13 h4_0
        replace h6_0 := RE.mono le13 h6_0
        replace h11_0 := RE.mono le13 h11_0
        replace ha := le13 _ _ ha
        replace hbk := le13 _ _ hbk
        obtain ⟨k13, rfl, h13_0⟩ := h13
        refine call_rule (some 36) s (ih (by omega) (by omega) hda.2 hdb.2 h11_0 h13_0) (by kernel_rfl) ?_
        intro v14 I14 w14 le14 h14 s
        replace ha0 := RE.mono le14 ha0
        replace hb1 := RE.mono le14 hb1
        replace hb2 := RE.mono le14 hb2
        replace hb0 := RE.mono le14 hb0
        replace h4_0 := RE.mono le14 h4_0
        replace h6_0 := RE.mono le14 h6_0
        replace h11_0 := RE.mono le14 h11_0
        replace h13_0 := RE.mono le14 h13_0
        replace ha := le14 _ _ ha
        replace hbk := le14 _ _ hbk
        obtain rfl := h14
        refine ops_rule (C := []) [] [] 2 [] 0 (fun φ15 => [(4, .bool (rleqF n (E.up (E.base (E.leaf a)) (E.right (E.leaf a))) (E.up (E.base (E.node b b1 b2)) (E.right (E.node b b1 b2))))), (37, .bool (rleqF n (E.up (E.base (E.leaf a)) (E.right (E.leaf a))) (E.up (E.base (E.node b b1 b2)) (E.right (E.node b b1 b2)))))]) (fun φ15 => []) (fun φ15 => []) s trivial (fun φ15 => by kernel_rfl) ?_
        intro φ15 w15 s
        refine ops_done (by kernel_rfl) ?_
        refine wp_ret ?_
        refine ret_rule (C := []) [] [] (.bool (rleqF n (E.up (E.base (E.leaf a)) (E.right (E.leaf a))) (E.up (E.base (E.node b b1 b2)) (E.right (E.node b b1 b2))))) [] [] s trivial (by kernel_rfl) ?_
        exact ⟨_, _, _, rfl, s, (by rw [rleqF, if_neg (by intro q; cases q)]; simp only [hc9, Bool.true_and, Bool.false_and])⟩
      ·
        rw [hc9]
        refine ops_rule (C := []) [] [] 7 [] 0 (fun φ16 => [(4, .bool false), (37, .bool false), (36, undef), (35, undef), (34, undef), (33, undef), (32, undef)]) (fun φ16 => []) (fun φ16 => []) s trivial (fun φ16 => by kernel_rfl) ?_
        intro φ16 w16 s
        refine ops_done (by kernel_rfl) ?_
        refine wp_ret ?_
        refine ret_rule (C := []) [] [] (.bool false) [] [] s trivial (by kernel_rfl) ?_
        exact ⟨_, _, _, rfl, s, (by rw [rleqF, if_neg (by intro q; cases q)]; simp only [hc9, Bool.true_and, Bool.false_and])⟩
  | node a a1 a2 =>
    cases B with
    | leaf b =>
      have ha0 : RE _ (E.node a a1 a2) ka := ha
      obtain ⟨ka1, ka2, hak, ha1, ha2⟩ := ha
      have hb0 : RE _ (E.leaf b) kb := hb
      refine enter_rule 38 [(0, .pointer (some ⟨ka, 0, none⟩)), (1, .pointer (some ⟨kb, 0, none⟩))] Tryd.func112 rfl (by kernel_rfl) ?_
      intro w s
      refine wp_seq ?_
      refine region_rule ?_
      refine ops_rule (C := []) [] [] 1 [] 0 (fun φ1 => [(4, .bool false)]) (fun φ1 => []) (fun φ1 => []) s trivial (fun φ1 => by kernel_rfl) ?_
      intro φ1 w1 s
      refine ops_done (by kernel_rfl) ?_
      refine wp_seq ?_
      refine wp_seq ?_
      refine region_rule ?_
      refine ops_rule (C := [(ka, .cells #[.int .u64 ((a : Nat) : Int), .pointer (some ⟨ka1, 0, none⟩), .pointer (some ⟨ka2, 0, none⟩)] 112)]) [] [] 12 [.c 0] 0 (fun φ2 => [(16, .bool false), (15, undef), (14, undef), (13, undef), (12, undef), (11, undef), (10, .bool false), (9, .bool false), (8, .pointer (some ⟨ka1, 0, none⟩)), (7, .pointer (some ⟨ka, 1, none⟩)), (6, .pointer (some ⟨ka, 0, none⟩)), (5, .pointer (some ⟨ka, 0, none⟩))]) (fun φ2 => []) (fun φ2 => [ka]) s ⟨hak, trivial⟩ (fun φ2 => by kernel_rfl) ?_
      intro φ2 w2 s
      refine ops_done (by kernel_rfl) ?_
      refine cond_false_rule (b := false) (by kernel_rfl) rfl ?_
      refine wp_skip ?_
      refine wp_seq ?_
      refine region_rule ?_
      refine ops_rule (C := []) [] [] 1 [] 0 (fun φ3 => [(26, .pointer (some ⟨ka, 0, none⟩))]) (fun φ3 => []) (fun φ3 => []) s trivial (fun φ3 => by kernel_rfl) ?_
      intro φ3 w3 s
      refine call_rule (some 27) s (reLeft_c ha0 (by omega)) (by kernel_rfl) ?_
      intro v4 I4 w4 le4 h4 s
      replace ha1 := RE.mono le4 ha1
      replace ha2 := RE.mono le4 ha2
      replace ha0 := RE.mono le4 ha0
      replace hb0 := RE.mono le4 hb0
      replace hak := le4 _ _ hak
      replace hb := le4 _ _ hb
      obtain ⟨k4, rfl, h4_0⟩ := h4
      refine ops_rule (C := []) [] [] 1 [] 0 (fun φ5 => [(28, .pointer (some ⟨kb, 0, none⟩))]) (fun φ5 => []) (fun φ5 => []) s trivial (fun φ5 => by kernel_rfl) ?_
      intro φ5 w5 s
      refine call_rule (some 29) s (reLeft_c hb0 (by omega)) (by kernel_rfl) ?_
      intro v6 I6 w6 le6 h6 s
      replace ha1 := RE.mono le6 ha1
      replace ha2 := RE.mono le6 ha2
      replace ha0 := RE.mono le6 ha0
      replace hb0 := RE.mono le6 hb0
      replace h4_0 := RE.mono le6 h4_0
      replace hak := le6 _ _ hak
      replace hb := le6 _ _ hb
      obtain ⟨k6, rfl, h6_0⟩ := h6
      refine call_rule (some 30) s (ih (by omega) (by omega) hda.1 hdb.1 h4_0 h6_0) (by kernel_rfl) ?_
      intro v7 I7 w7 le7 h7 s
      replace ha1 := RE.mono le7 ha1
      replace ha2 := RE.mono le7 ha2
      replace ha0 := RE.mono le7 ha0
      replace hb0 := RE.mono le7 hb0
      replace h4_0 := RE.mono le7 h4_0
      replace h6_0 := RE.mono le7 h6_0
      replace hak := le7 _ _ hak
      replace hb := le7 _ _ hb
      obtain rfl := h7
      refine ops_rule (C := []) [] [] 1 [] 0 (fun φ8 => [(31, .bool (rleqF n (E.up (E.base (E.node a a1 a2)) (E.left (E.node a a1 a2))) (E.up (E.base (E.leaf b)) (E.left (E.leaf b)))))]) (fun φ8 => []) (fun φ8 => []) s trivial (fun φ8 => by kernel_rfl) ?_
      intro φ8 w8 s
      rcases Bool.eq_false_or_eq_true (rleqF n (E.up (E.base (E.node a a1 a2)) (E.left (E.node a a1 a2))) (E.up (E.base (E.leaf b)) (E.left (E.leaf b)))) with hc9 | hc9
      ·
        rw [hc9]
        refine ops_rule (C := []) [] [] 1 [] 0 (fun φ10 => [(32, .pointer (some ⟨ka, 0, none⟩))]) (fun φ10 => []) (fun φ10 => []) s trivial (fun φ10 => by kernel_rfl) ?_
        intro φ10 w10 s
        refine call_rule (some 33) s (reRight_c ha0 (by omega)) (by kernel_rfl) ?_
        intro v11 I11 w11 le11 h11 s
        replace ha1 := RE.mono le11 ha1
        replace ha2 := RE.mono le11 ha2
        replace ha0 := RE.mono le11 ha0
        replace hb0 := RE.mono le11 hb0
        replace h4_0 := RE.mono le11 h4_0
        replace h6_0 := RE.mono le11 h6_0
        replace hak := le11 _ _ hak
        replace hb := le11 _ _ hb
        obtain ⟨k11, rfl, h11_0⟩ := h11
        refine ops_rule (C := []) [] [] 1 [] 0 (fun φ12 => [(34, .pointer (some ⟨kb, 0, none⟩))]) (fun φ12 => []) (fun φ12 => []) s trivial (fun φ12 => by kernel_rfl) ?_
        intro φ12 w12 s
        refine call_rule (some 35) s (reRight_c hb0 (by omega)) (by kernel_rfl) ?_
        intro v13 I13 w13 le13 h13 s
        replace ha1 := RE.mono le13 ha1
        replace ha2 := RE.mono le13 ha2
        replace ha0 := RE.mono le13 ha0
        replace hb0 := RE.mono le13 hb0
        replace h4_0 := RE.mono le13 h4_0
        replace h6_0 := RE.mono le13 h6_0
        replace h11_0 := RE.mono le13 h11_0
        replace hak := le13 _ _ hak
        replace hb := le13 _ _ hb
        obtain ⟨k13, rfl, h13_0⟩ := h13
        refine call_rule (some 36) s (ih (by omega) (by omega) hda.2 hdb.2 h11_0 h13_0) (by kernel_rfl) ?_
        intro v14 I14 w14 le14 h14 s
        replace ha1 := RE.mono le14 ha1
        replace ha2 := RE.mono le14 ha2
        replace ha0 := RE.mono le14 ha0
        replace hb0 := RE.mono le14 hb0
        replace h4_0 := RE.mono le14 h4_0
        replace h6_0 := RE.mono le14 h6_0
        replace h11_0 := RE.mono le14 h11_0
        replace h13_0 := RE.mono le14 h13_0
        replace hak := le14 _ _ hak
        replace hb := le14 _ _ hb
        obtain rfl := h14
        refine ops_rule (C := []) [] [] 2 [] 0 (fun φ15 => [(4, .bool (rleqF n (E.up (E.base (E.node a a1 a2)) (E.right (E.node a a1 a2))) (E.up (E.base (E.leaf b)) (E.right (E.leaf b))))), (37, .bool (rleqF n (E.up (E.base (E.node a a1 a2)) (E.right (E.node a a1 a2))) (E.up (E.base (E.leaf b)) (E.right (E.leaf b)))))]) (fun φ15 => []) (fun φ15 => []) s trivial (fun φ15 => by kernel_rfl) ?_
        intro φ15 w15 s
        refine ops_done (by kernel_rfl) ?_
        refine wp_ret ?_
        refine ret_rule (C := []) [] [] (.bool (rleqF n (E.up (E.base (E.node a a1 a2)) (E.right (E.node a a1 a2))) (E.up (E.base (E.leaf b)) (E.right (E.leaf b))))) [] [] s trivial (by kernel_rfl) ?_
        exact ⟨_, _, _, rfl, s, (by rw [rleqF, if_neg (by intro q; cases q)]; simp only [hc9, Bool.true_and, Bool.false_and])⟩
      ·
        rw [hc9]
        refine ops_rule (C := []) [] [] 7 [] 0 (fun φ16 => [(4, .bool false), (37, .bool false), (36, undef), (35, undef), (34, undef), (33, undef), (32, undef)]) (fun φ16 => []) (fun φ16 => []) s trivial (fun φ16 => by kernel_rfl) ?_
        intro φ16 w16 s
        refine ops_done (by kernel_rfl) ?_
        refine wp_ret ?_
        refine ret_rule (C := []) [] [] (.bool false) [] [] s trivial (by kernel_rfl) ?_
        exact ⟨_, _, _, rfl, s, (by rw [rleqF, if_neg (by intro q; cases q)]; simp only [hc9, Bool.true_and, Bool.false_and])⟩
    | node b b1 b2 =>
      have ha0 : RE _ (E.node a a1 a2) ka := ha
      obtain ⟨ka1, ka2, hak, ha1, ha2⟩ := ha
      have hb0 : RE _ (E.node b b1 b2) kb := hb
      obtain ⟨kb1, kb2, hbk, hb1, hb2⟩ := hb
      refine enter_rule 38 [(0, .pointer (some ⟨ka, 0, none⟩)), (1, .pointer (some ⟨kb, 0, none⟩))] Tryd.func112 rfl (by kernel_rfl) ?_
      intro w s
      refine wp_seq ?_
      refine region_rule ?_
      refine ops_rule (C := []) [] [] 1 [] 0 (fun φ1 => [(4, .bool false)]) (fun φ1 => []) (fun φ1 => []) s trivial (fun φ1 => by kernel_rfl) ?_
      intro φ1 w1 s
      refine ops_done (by kernel_rfl) ?_
      refine wp_seq ?_
      refine wp_seq ?_
      refine region_rule ?_
      refine ops_rule (C := [(ka, .cells #[.int .u64 ((a : Nat) : Int), .pointer (some ⟨ka1, 0, none⟩), .pointer (some ⟨ka2, 0, none⟩)] 112)]) [] [] 12 [.c 0] 0 (fun φ2 => [(16, .bool false), (15, undef), (14, undef), (13, undef), (12, undef), (11, undef), (10, .bool false), (9, .bool false), (8, .pointer (some ⟨ka1, 0, none⟩)), (7, .pointer (some ⟨ka, 1, none⟩)), (6, .pointer (some ⟨ka, 0, none⟩)), (5, .pointer (some ⟨ka, 0, none⟩))]) (fun φ2 => []) (fun φ2 => [ka]) s ⟨hak, trivial⟩ (fun φ2 => by kernel_rfl) ?_
      intro φ2 w2 s
      refine ops_done (by kernel_rfl) ?_
      refine cond_false_rule (b := false) (by kernel_rfl) rfl ?_
      refine wp_skip ?_
      refine wp_seq ?_
      refine region_rule ?_
      refine ops_rule (C := []) [] [] 1 [] 0 (fun φ3 => [(26, .pointer (some ⟨ka, 0, none⟩))]) (fun φ3 => []) (fun φ3 => []) s trivial (fun φ3 => by kernel_rfl) ?_
      intro φ3 w3 s
      refine call_rule (some 27) s (reLeft_c ha0 (by omega)) (by kernel_rfl) ?_
      intro v4 I4 w4 le4 h4 s
      replace ha1 := RE.mono le4 ha1
      replace ha2 := RE.mono le4 ha2
      replace ha0 := RE.mono le4 ha0
      replace hb1 := RE.mono le4 hb1
      replace hb2 := RE.mono le4 hb2
      replace hb0 := RE.mono le4 hb0
      replace hak := le4 _ _ hak
      replace hbk := le4 _ _ hbk
      obtain ⟨k4, rfl, h4_0⟩ := h4
      refine ops_rule (C := []) [] [] 1 [] 0 (fun φ5 => [(28, .pointer (some ⟨kb, 0, none⟩))]) (fun φ5 => []) (fun φ5 => []) s trivial (fun φ5 => by kernel_rfl) ?_
      intro φ5 w5 s
      refine call_rule (some 29) s (reLeft_c hb0 (by omega)) (by kernel_rfl) ?_
      intro v6 I6 w6 le6 h6 s
      replace ha1 := RE.mono le6 ha1
      replace ha2 := RE.mono le6 ha2
      replace ha0 := RE.mono le6 ha0
      replace hb1 := RE.mono le6 hb1
      replace hb2 := RE.mono le6 hb2
      replace hb0 := RE.mono le6 hb0
      replace h4_0 := RE.mono le6 h4_0
      replace hak := le6 _ _ hak
      replace hbk := le6 _ _ hbk
      obtain ⟨k6, rfl, h6_0⟩ := h6
      refine call_rule (some 30) s (ih (by omega) (by omega) hda.1 hdb.1 h4_0 h6_0) (by kernel_rfl) ?_
      intro v7 I7 w7 le7 h7 s
      replace ha1 := RE.mono le7 ha1
      replace ha2 := RE.mono le7 ha2
      replace ha0 := RE.mono le7 ha0
      replace hb1 := RE.mono le7 hb1
      replace hb2 := RE.mono le7 hb2
      replace hb0 := RE.mono le7 hb0
      replace h4_0 := RE.mono le7 h4_0
      replace h6_0 := RE.mono le7 h6_0
      replace hak := le7 _ _ hak
      replace hbk := le7 _ _ hbk
      obtain rfl := h7
      refine ops_rule (C := []) [] [] 1 [] 0 (fun φ8 => [(31, .bool (rleqF n (E.up (E.base (E.node a a1 a2)) (E.left (E.node a a1 a2))) (E.up (E.base (E.node b b1 b2)) (E.left (E.node b b1 b2)))))]) (fun φ8 => []) (fun φ8 => []) s trivial (fun φ8 => by kernel_rfl) ?_
      intro φ8 w8 s
      rcases Bool.eq_false_or_eq_true (rleqF n (E.up (E.base (E.node a a1 a2)) (E.left (E.node a a1 a2))) (E.up (E.base (E.node b b1 b2)) (E.left (E.node b b1 b2)))) with hc9 | hc9
      ·
        rw [hc9]
        refine ops_rule (C := []) [] [] 1 [] 0 (fun φ10 => [(32, .pointer (some ⟨ka, 0, none⟩))]) (fun φ10 => []) (fun φ10 => []) s trivial (fun φ10 => by kernel_rfl) ?_
        intro φ10 w10 s
        refine call_rule (some 33) s (reRight_c ha0 (by omega)) (by kernel_rfl) ?_
        intro v11 I11 w11 le11 h11 s
        replace ha1 := RE.mono le11 ha1
        replace ha2 := RE.mono le11 ha2
        replace ha0 := RE.mono le11 ha0
        replace hb1 := RE.mono le11 hb1
        replace hb2 := RE.mono le11 hb2
        replace hb0 := RE.mono le11 hb0
        replace h4_0 := RE.mono le11 h4_0
        replace h6_0 := RE.mono le11 h6_0
        replace hak := le11 _ _ hak
        replace hbk := le11 _ _ hbk
        obtain ⟨k11, rfl, h11_0⟩ := h11
        refine ops_rule (C := []) [] [] 1 [] 0 (fun φ12 => [(34, .pointer (some ⟨kb, 0, none⟩))]) (fun φ12 => []) (fun φ12 => []) s trivial (fun φ12 => by kernel_rfl) ?_
        intro φ12 w12 s
        refine call_rule (some 35) s (reRight_c hb0 (by omega)) (by kernel_rfl) ?_
        intro v13 I13 w13 le13 h13 s
        replace ha1 := RE.mono le13 ha1
        replace ha2 := RE.mono le13 ha2
        replace ha0 := RE.mono le13 ha0
        replace hb1 := RE.mono le13 hb1
        replace hb2 := RE.mono le13 hb2
        replace hb0 := RE.mono le13 hb0
        replace h4_0 := RE.mono le13 h4_0
        replace h6_0 := RE.mono le13 h6_0
        replace h11_0 := RE.mono le13 h11_0
        replace hak := le13 _ _ hak
        replace hbk := le13 _ _ hbk
        obtain ⟨k13, rfl, h13_0⟩ := h13
        refine call_rule (some 36) s (ih (by omega) (by omega) hda.2 hdb.2 h11_0 h13_0) (by kernel_rfl) ?_
        intro v14 I14 w14 le14 h14 s
        replace ha1 := RE.mono le14 ha1
        replace ha2 := RE.mono le14 ha2
        replace ha0 := RE.mono le14 ha0
        replace hb1 := RE.mono le14 hb1
        replace hb2 := RE.mono le14 hb2
        replace hb0 := RE.mono le14 hb0
        replace h4_0 := RE.mono le14 h4_0
        replace h6_0 := RE.mono le14 h6_0
        replace h11_0 := RE.mono le14 h11_0
        replace h13_0 := RE.mono le14 h13_0
        replace hak := le14 _ _ hak
        replace hbk := le14 _ _ hbk
        obtain rfl := h14
        refine ops_rule (C := []) [] [] 2 [] 0 (fun φ15 => [(4, .bool (rleqF n (E.up (E.base (E.node a a1 a2)) (E.right (E.node a a1 a2))) (E.up (E.base (E.node b b1 b2)) (E.right (E.node b b1 b2))))), (37, .bool (rleqF n (E.up (E.base (E.node a a1 a2)) (E.right (E.node a a1 a2))) (E.up (E.base (E.node b b1 b2)) (E.right (E.node b b1 b2)))))]) (fun φ15 => []) (fun φ15 => []) s trivial (fun φ15 => by kernel_rfl) ?_
        intro φ15 w15 s
        refine ops_done (by kernel_rfl) ?_
        refine wp_ret ?_
        refine ret_rule (C := []) [] [] (.bool (rleqF n (E.up (E.base (E.node a a1 a2)) (E.right (E.node a a1 a2))) (E.up (E.base (E.node b b1 b2)) (E.right (E.node b b1 b2))))) [] [] s trivial (by kernel_rfl) ?_
        exact ⟨_, _, _, rfl, s, (by rw [rleqF, if_neg (by intro q; cases q)]; simp only [hc9, Bool.true_and, Bool.false_and])⟩
      ·
        rw [hc9]
        refine ops_rule (C := []) [] [] 7 [] 0 (fun φ16 => [(4, .bool false), (37, .bool false), (36, undef), (35, undef), (34, undef), (33, undef), (32, undef)]) (fun φ16 => []) (fun φ16 => []) s trivial (fun φ16 => by kernel_rfl) ?_
        intro φ16 w16 s
        refine ops_done (by kernel_rfl) ?_
        refine wp_ret ?_
        refine ret_rule (C := []) [] [] (.bool false) [] [] s trivial (by kernel_rfl) ?_
        exact ⟨_, _, _, rfl, s, (by rw [rleqF, if_neg (by intro q; cases q)]; simp only [hc9, Bool.true_and, Bool.false_and])⟩

theorem rleq_zero {I : IM} {A B : E} {ka kb : Nat} (ha : RE I A ka) (hb : RE I B kb) (hA : A.depth ≤ 0) (hB : B.depth ≤ 0) : Fun Tryd.prog 112 #[.pointer (some ⟨ka, 0, none⟩), .pointer (some ⟨kb, 0, none⟩)] I (fun v J => v = .bool (rleqF 0 A B)) := by
  cases A with
  | node _ l r => have : 1 + max l.depth r.depth ≤ 0 := hA; omega
  | leaf a =>
    cases B with
    | node _ l r => have : 1 + max l.depth r.depth ≤ 0 := hB; omega
    | leaf b =>
      have ha0 : RE _ (E.leaf a) ka := ha
      have hb0 : RE _ (E.leaf b) kb := hb
      refine enter_rule 38 [(0, .pointer (some ⟨ka, 0, none⟩)), (1, .pointer (some ⟨kb, 0, none⟩))] Tryd.func112 rfl (by kernel_rfl) ?_
      intro w s
      refine wp_seq ?_
      refine region_rule ?_
      refine ops_rule (C := []) [] [] 1 [] 0 (fun φ1 => [(4, .bool false)]) (fun φ1 => []) (fun φ1 => []) s trivial (fun φ1 => by kernel_rfl) ?_
      intro φ1 w1 s
      refine ops_done (by kernel_rfl) ?_
      refine wp_seq ?_
      refine wp_seq ?_
      refine region_rule ?_
      refine ops_rule (C := [(ka, .cells #[.int .u64 ((a : Nat) : Int), .pointer none, .pointer none] 112), (kb, .cells #[.int .u64 ((b : Nat) : Int), .pointer none, .pointer none] 112)]) [] [] 12 [.c 0, .c 1] 0 (fun φ2 => [(16, .bool true), (15, .bool true), (14, .pointer none), (13, .pointer (some ⟨kb, 1, none⟩)), (12, .pointer (some ⟨kb, 0, none⟩)), (11, .pointer (some ⟨kb, 0, none⟩)), (10, .bool true), (9, .bool true), (8, .pointer none), (7, .pointer (some ⟨ka, 1, none⟩)), (6, .pointer (some ⟨ka, 0, none⟩)), (5, .pointer (some ⟨ka, 0, none⟩))]) (fun φ2 => []) (fun φ2 => [ka, kb]) s ⟨ha, ⟨hb, trivial⟩⟩ (fun φ2 => by kernel_rfl) ?_
      intro φ2 w2 s
      refine ops_done (by kernel_rfl) ?_
      refine cond_true_rule (b := true) (by kernel_rfl) rfl ?_
      refine wp_seq ?_
      refine draw_rule (C := [(ka, .cells #[.int .u64 ((a : Nat) : Int), .pointer none, .pointer none] 112), (kb, .cells #[.int .u64 ((b : Nat) : Int), .pointer none, .pointer none] 112)]) ⟨(fun φ3 xs3 => [.look 0 [] [], .look 0 [] [], .look 0 [] [], .look 0 [.c 0] [ka], .look 0 [] [], .look 0 [] [], .look 0 [] [], .look 0 [.c 1] [kb], .sub 0 [] [] (.bool (decide (((a : Nat) : Int) ≤ ((b : Nat) : Int)))), .look 0 [] []]), (fun φ3 xs3 => [.pointer (some ⟨ka, 0, none⟩), .pointer (some ⟨ka, 0, none⟩), .pointer (some ⟨ka, 0, none⟩), .int .u64 ((a : Nat) : Int), .pointer (some ⟨kb, 0, none⟩), .pointer (some ⟨kb, 0, none⟩), .pointer (some ⟨kb, 0, none⟩), .int .u64 ((b : Nat) : Int), .bool (decide (a ≤ b)), .bool (decide (a ≤ b))]), (fun φ3 xs3 => [[]]), (fun φ3 xs3 => [[default, default, default, default, default, default, default, default, default, default]]), [], [1, 1, 1, 1, 1, 1, 1, 1, 5, 1]⟩ (fun j => ([MP.any, MP.any, MP.any, MP.any, MP.any, MP.any, MP.any, MP.any, MP.any, MP.any] : List MP).getD j MP.any) [] [8] [] (fun φ3 xs3 => []) (fun φ3 xs3 => [(17, .pointer (some ⟨ka, 0, none⟩)), (18, .pointer (some ⟨ka, 0, none⟩)), (19, .pointer (some ⟨ka, 0, none⟩)), (20, .int .u64 ((a : Nat) : Int)), (21, .pointer (some ⟨kb, 0, none⟩)), (22, .pointer (some ⟨kb, 0, none⟩)), (23, .pointer (some ⟨kb, 0, none⟩)), (24, .int .u64 ((b : Nat) : Int)), (25, .bool (decide (a ≤ b))), (4, .bool (decide (a ≤ b)))]) (fun φ3 xs3 => []) s ⟨ha, ⟨hb, trivial⟩⟩ (by kernel_rfl) (by kernel_rfl) (fun _ _ => by kernel_rfl) (fun _ _ => by kernel_rfl) ⟨fun _ _ => by kernel_rfl, fun _ _ => by kernel_rfl, fun _ _ => by kernel_rfl, fun _ _ => by kernel_rfl⟩ (fun _ _ _ => by kernel_rfl) (fun _ _ => by kernel_rfl) (fun _ _ => by kernel_rfl) (fun _ _ => by kernel_rfl) (fun _ _ => by kernel_rfl) (fun _ _ => by kernel_rfl) ⟨kcast (A := ∀ (φ3 : Nat → Nat) (xs3 : Xs), (.bool (decide (((a : Nat) : Int) ≤ ((b : Nat) : Int))) : Value) = .bool (decide (a ≤ b))) (by kernel_rfl) (fun φ3 xs3 => congrArg Value.bool ((nat_leq (a := a) (b := b)))), trivial⟩ trivial trivial ?k3
      case k3 =>
        rintro φ3 xs3 I3 w3 le3 s 
        replace ha0 := RE.mono le3 ha0
        replace hb0 := RE.mono le3 hb0
        replace ha := le3 _ _ ha
        replace hb := le3 _ _ hb
        refine wp_ret ?_
        refine ret_rule (C := []) [] [] (.bool (decide (a ≤ b))) [] [] s trivial (by kernel_rfl) ?_
        exact ⟨_, _, _, rfl, s, rfl⟩

theorem rleq_c : ∀ (n : Nat) {I : IM} {A B : E} {ka kb : Nat}, A.depth ≤ n → B.depth ≤ n → A.top < 18446744073709551616 → B.top < 18446744073709551616 → RE I A ka → RE I B kb → Fun Tryd.prog 112 #[.pointer (some ⟨ka, 0, none⟩), .pointer (some ⟨kb, 0, none⟩)] I (fun v J => v = .bool (rleqF n A B))
  | 0, _, _, _, _, _, h1, h2, _, _, a, b => rleq_zero a b h1 h2
  | n + 1, _, _, _, _, _, h1, h2, h3, h4, a, b => rleq_step a b h1 h2 h3 h4 (fun {I} {A B} {ka kb} t1 t2 d1 d2 a b => rleq_c n d1 d2 t1 t2 a b)
theorem rleqN_c {I : IM} {A B : E} {ka kb : Nat} (hA : A.nf) (hB : B.nf) (h1 : A.depth ≤ 16) (h2 : B.depth ≤ 16) (t1 : A.top < 18446744073709551616) (t2 : B.top < 18446744073709551616) (a : RE I A ka) (b : RE I B kb) : Fun Tryd.prog 112 #[.pointer (some ⟨ka, 0, none⟩), .pointer (some ⟨kb, 0, none⟩)] I (fun v J => v = .bool (leqF 64 A B)) :=
  (rleq_c 16 h1 h2 t1 t2 a b).mono fun v J _ hv => by rw [hv, rleq_leq hA hB h1 h2]

set_option maxHeartbeats 1000000 in
theorem rsame_c {I : IM} {A B : E} {ka kb : Nat} (hA : A.nf) (hB : B.nf) (h1 : A.depth ≤ 16) (h2 : B.depth ≤ 16) (t1 : A.top < 18446744073709551616) (t2 : B.top < 18446744073709551616) (a : RE I A ka) (b : RE I B kb) : Fun Tryd.prog 85 #[.pointer (some ⟨ka, 0, none⟩), .pointer (some ⟨kb, 0, none⟩)] I (fun v J => v = .bool (leqF 64 A B && leqF 64 B A)) := by
  refine enter_rule 13 [(0, .pointer (some ⟨ka, 0, none⟩)), (1, .pointer (some ⟨kb, 0, none⟩))] Tryd.func85 rfl (by kernel_rfl) ?_
  intro w s
  refine wp_seq ?_
  refine region_rule ?_
  refine ops_rule (C := []) [] [] 1 [] 0 (fun φ1 => [(4, .bool false)]) (fun φ1 => []) (fun φ1 => []) s trivial (fun φ1 => by kernel_rfl) ?_
  intro φ1 w1 s
  refine ops_done (by kernel_rfl) ?_
  refine wp_seq ?_
  refine region_rule ?_
  refine ops_rule (C := []) [] [] 2 [] 0 (fun φ2 => [(6, .pointer (some ⟨kb, 0, none⟩)), (5, .pointer (some ⟨ka, 0, none⟩))]) (fun φ2 => []) (fun φ2 => []) s trivial (fun φ2 => by kernel_rfl) ?_
  intro φ2 w2 s
  refine call_rule (some 7) s (rleqN_c hA hB (by omega) (by omega) (by omega) (by omega) a b) (by kernel_rfl) ?_
  intro v3 I3 w3 le3 h3 s
  replace a := RE.mono le3 a
  replace b := RE.mono le3 b
  obtain rfl := h3
  refine ops_rule (C := []) [] [] 1 [] 0 (fun φ4 => [(8, .bool (leqF 64 A B))]) (fun φ4 => []) (fun φ4 => []) s trivial (fun φ4 => by kernel_rfl) ?_
  intro φ4 w4 s
  rcases Bool.eq_false_or_eq_true (leqF 64 A B) with hc5 | hc5
  ·
    rw [hc5]
    refine ops_rule (C := []) [] [] 2 [] 0 (fun φ6 => [(10, .pointer (some ⟨ka, 0, none⟩)), (9, .pointer (some ⟨kb, 0, none⟩))]) (fun φ6 => []) (fun φ6 => []) s trivial (fun φ6 => by kernel_rfl) ?_
    intro φ6 w6 s
    refine call_rule (some 11) s (rleqN_c hB hA (by omega) (by omega) (by omega) (by omega) b a) (by kernel_rfl) ?_
    intro v7 I7 w7 le7 h7 s
    replace a := RE.mono le7 a
    replace b := RE.mono le7 b
    obtain rfl := h7
    refine ops_rule (C := []) [] [] 2 [] 0 (fun φ8 => [(4, .bool (leqF 64 B A)), (12, .bool (leqF 64 B A))]) (fun φ8 => []) (fun φ8 => []) s trivial (fun φ8 => by kernel_rfl) ?_
    intro φ8 w8 s
    refine ops_done (by kernel_rfl) ?_
    refine wp_ret ?_
    refine ret_rule (C := []) [] [] (.bool (leqF 64 B A)) [] [] s trivial (by kernel_rfl) ?_
    exact ⟨_, _, _, rfl, s, (by simp only [hc5, Bool.true_and, Bool.false_and])⟩
  ·
    rw [hc5]
    refine ops_rule (C := []) [] [] 5 [] 0 (fun φ9 => [(4, .bool false), (12, .bool false), (11, undef), (10, undef), (9, undef)]) (fun φ9 => []) (fun φ9 => []) s trivial (fun φ9 => by kernel_rfl) ?_
    intro φ9 w9 s
    refine ops_done (by kernel_rfl) ?_
    refine wp_ret ?_
    refine ret_rule (C := []) [] [] (.bool false) [] [] s trivial (by kernel_rfl) ?_
    exact ⟨_, _, _, rfl, s, (by simp only [hc5, Bool.true_and, Bool.false_and])⟩

set_option maxHeartbeats 2000000 in
theorem rdepth_step {I : IM} {e : E} {k : Nat} (h : RE I e k) (hd : e.depth ≤ 1000) (ih : ∀ n l r, e = .node n l r → (∀ {J : IM} {k : Nat}, RE J l k → l.depth ≤ 1000 → Fun Tryd.prog 20 #[.pointer (some ⟨k, 0, none⟩)] J (fun v J => v = .int .i64 ((l.depth : Nat) : Int))) ∧ (∀ {J : IM} {k : Nat}, RE J r k → r.depth ≤ 1000 → Fun Tryd.prog 20 #[.pointer (some ⟨k, 0, none⟩)] J (fun v J => v = .int .i64 ((r.depth : Nat) : Int)))) : Fun Tryd.prog 20 #[.pointer (some ⟨k, 0, none⟩)] I (fun v J => v = .int .i64 ((e.depth : Nat) : Int)) := by
  cases e with
  | leaf n =>
    have h0 : RE _ (E.leaf n) k := h
    refine enter_rule 27 [(0, .pointer (some ⟨k, 0, none⟩))] Tryd.func20 rfl (by kernel_rfl) ?_
    intro w s
    refine wp_seq ?_
    refine region_rule ?_
    refine ops_rule (C := []) [] [] 1 [] 0 (fun φ1 => [(2, .int .i64 0)]) (fun φ1 => []) (fun φ1 => []) s trivial (fun φ1 => by kernel_rfl) ?_
    intro φ1 w1 s
    refine ops_done (by kernel_rfl) ?_
    refine wp_seq ?_
    refine wp_seq ?_
    refine region_rule ?_
    refine ops_rule (C := [(k, .cells #[.int .u64 ((n : Nat) : Int), .pointer none, .pointer none] 112)]) [] [] 5 [.c 0] 0 (fun φ2 => [(9, .bool true), (8, .pointer none), (7, .pointer (some ⟨k, 1, none⟩)), (6, .pointer (some ⟨k, 0, none⟩)), (5, .pointer (some ⟨k, 0, none⟩))]) (fun φ2 => []) (fun φ2 => [k]) s ⟨h, trivial⟩ (fun φ2 => by kernel_rfl) ?_
    intro φ2 w2 s
    refine ops_done (by kernel_rfl) ?_
    refine cond_true_rule (b := true) (by kernel_rfl) rfl ?_
    refine wp_seq ?_
    refine region_rule ?_
    refine ops_rule (C := []) [] [] 1 [] 0 (fun φ3 => [(2, .int .i64 0)]) (fun φ3 => []) (fun φ3 => []) s trivial (fun φ3 => by kernel_rfl) ?_
    intro φ3 w3 s
    refine ops_done (by kernel_rfl) ?_
    refine wp_ret ?_
    refine ret_rule (C := []) [] [] (.int .i64 0) [] [] s trivial (by kernel_rfl) ?_
    exact ⟨_, _, _, rfl, s, rfl⟩
  | node n l r =>
    have h0 : RE _ (E.node n l r) k := h
    obtain ⟨kl, kr, hk, hl, hr⟩ := h
    obtain ⟨ihl, ihr⟩ := ih n l r rfl
    clear ih
    have hd1 : 1 + max l.depth r.depth ≤ 1000 := hd
    refine enter_rule 27 [(0, .pointer (some ⟨k, 0, none⟩))] Tryd.func20 rfl (by kernel_rfl) ?_
    intro w s
    refine wp_seq ?_
    refine region_rule ?_
    refine ops_rule (C := []) [] [] 1 [] 0 (fun φ1 => [(2, .int .i64 0)]) (fun φ1 => []) (fun φ1 => []) s trivial (fun φ1 => by kernel_rfl) ?_
    intro φ1 w1 s
    refine ops_done (by kernel_rfl) ?_
    refine wp_seq ?_
    refine wp_seq ?_
    refine region_rule ?_
    refine ops_rule (C := [(k, .cells #[.int .u64 ((n : Nat) : Int), .pointer (some ⟨kl, 0, none⟩), .pointer (some ⟨kr, 0, none⟩)] 112)]) [] [] 5 [.c 0] 0 (fun φ2 => [(9, .bool false), (8, .pointer (some ⟨kl, 0, none⟩)), (7, .pointer (some ⟨k, 1, none⟩)), (6, .pointer (some ⟨k, 0, none⟩)), (5, .pointer (some ⟨k, 0, none⟩))]) (fun φ2 => []) (fun φ2 => [k]) s ⟨hk, trivial⟩ (fun φ2 => by kernel_rfl) ?_
    intro φ2 w2 s
    refine ops_done (by kernel_rfl) ?_
    refine cond_false_rule (b := false) (by kernel_rfl) rfl ?_
    refine wp_skip ?_
    refine wp_seq ?_
    refine draw_rule (C := [(k, .cells #[.int .u64 ((n : Nat) : Int), .pointer (some ⟨kl, 0, none⟩), .pointer (some ⟨kr, 0, none⟩)] 112)]) ⟨(fun φ3 xs3 => [.look 0 [] [], .look 0 [] [], .look 0 [] [], .look 0 [.c 0] [k], .call 20 #[.pointer (some ⟨kl, 0, none⟩)], .look 0 [] [], .look 0 [] [], .look 0 [] [], .look 0 [.c 0] [k], .call 20 #[.pointer (some ⟨kr, 0, none⟩)], .look 0 [] [], .look 0 [] []]), (fun φ3 xs3 => [.pointer (some ⟨k, 0, none⟩), .pointer (some ⟨k, 0, none⟩), .pointer (some ⟨k, 1, none⟩), .pointer (some ⟨kl, 0, none⟩), .int .i64 ((l.depth : Nat) : Int), .pointer (some ⟨k, 0, none⟩), .pointer (some ⟨k, 0, none⟩), .pointer (some ⟨k, 2, none⟩), .pointer (some ⟨kr, 0, none⟩), .int .i64 ((r.depth : Nat) : Int), .int .i64 ((l.depth : Nat) : Int), .int .i64 ((r.depth : Nat) : Int)]), (fun φ3 xs3 => [[]]), (fun φ3 xs3 => [[default, default, default, default, default, default, default, default, default, default, default, default]]), [], [1, 1, 1, 1, 3, 1, 1, 1, 1, 3, 1, 1]⟩ (fun j => ([MP.any, MP.any, MP.any, MP.any, MP.any, MP.any, MP.any, MP.any, MP.any, MP.any, MP.any, MP.any] : List MP).getD j MP.any) [4, 9] [] [] (fun φ3 xs3 => []) (fun φ3 xs3 => [(10, .pointer (some ⟨k, 0, none⟩)), (11, .pointer (some ⟨k, 0, none⟩)), (12, .pointer (some ⟨k, 1, none⟩)), (13, .pointer (some ⟨kl, 0, none⟩)), (14, .int .i64 ((l.depth : Nat) : Int)), (15, .pointer (some ⟨k, 0, none⟩)), (16, .pointer (some ⟨k, 0, none⟩)), (17, .pointer (some ⟨k, 2, none⟩)), (18, .pointer (some ⟨kr, 0, none⟩)), (19, .int .i64 ((r.depth : Nat) : Int)), (3, .int .i64 ((l.depth : Nat) : Int)), (4, .int .i64 ((r.depth : Nat) : Int))]) (fun φ3 xs3 => []) s ⟨hk, trivial⟩ (by kernel_rfl) (by kernel_rfl) (fun _ _ => by kernel_rfl) (fun _ _ => by kernel_rfl) ⟨fun _ _ => by kernel_rfl, fun _ _ => by kernel_rfl, fun _ _ => by kernel_rfl, fun _ _ => by kernel_rfl⟩ (fun _ _ _ => by kernel_rfl) (fun _ _ => by kernel_rfl) (fun _ _ => by kernel_rfl) (fun _ _ => by kernel_rfl) (fun _ _ => by kernel_rfl) (fun _ _ => by kernel_rfl) trivial trivial ⟨?c3_4, ?c3_9, trivial⟩ ?k3
    case c3_4 =>
      refine kcast (A := ∀ (φ3 : Nat → Nat) (xs3 : Xs) (J4_3 : IM), I.Le J4_3 → Fun Tryd.prog 20 #[.pointer (some ⟨kl, 0, none⟩)] J4_3 (fun v J' => ∃ x : UX, v = .int .i64 ((l.depth : Nat) : Int) ∧ (True))) (by kernel_rfl) ?_
      intro φ3 xs3 J4_3 leJ
      have hl := RE.mono leJ hl
      exact Fun.mono (ihl hl (by omega)) (fun v J' _ h => ⟨UX.d, h, trivial⟩)
    case c3_9 =>
      refine kcast (A := ∀ (φ3 : Nat → Nat) (xs3 : Xs) (J9_3 : IM), I.Le J9_3 → (True) → Fun Tryd.prog 20 #[.pointer (some ⟨kr, 0, none⟩)] J9_3 (fun v J' => ∃ x : UX, v = .int .i64 ((r.depth : Nat) : Int) ∧ (True))) (by kernel_rfl) ?_
      intro φ3 xs3 J9_3 leJ
      rintro _
      have hr := RE.mono leJ hr
      exact Fun.mono (ihr hr (by omega)) (fun v J' _ h => ⟨UX.d, h, trivial⟩)
    case k3 =>
      rintro φ3 xs3 I3 w3 le3 s _ _
      replace hl := RE.mono le3 hl
      replace hr := RE.mono le3 hr
      replace h0 := RE.mono le3 h0
      replace hk := le3 _ _ hk
      refine wp_seq ?_
      refine wp_seq ?_
      refine region_rule ?_
      refine ops_rule (C := []) [] [] 3 [] 0 (fun φ4 => [(22, .bool (decide (((l.depth : Nat) : Int) > ((r.depth : Nat) : Int)))), (21, .int .i64 ((r.depth : Nat) : Int)), (20, .int .i64 ((l.depth : Nat) : Int))]) (fun φ4 => []) (fun φ4 => []) s trivial (fun φ4 => by kernel_rfl) ?_
      intro φ4 w4 s
      rw [nat_gtr (a := l.depth) (b := r.depth)]
      refine ops_done (by kernel_rfl) ?_
      rcases Bool.eq_false_or_eq_true (decide (r.depth < l.depth)) with hc5 | hc5
      ·
        rw [hc5]
        refine cond_true_rule (b := true) (by kernel_rfl) rfl ?_
        refine wp_seq ?_
        refine region_rule ?_
        refine ops_rule (C := []) [] [] 3 [] 0 (fun φ6 => [(2, .int .i64 (IntKind.wrap .i64 (((1 : Nat) : Int) + ((l.depth : Nat) : Int)))), (24, .int .i64 (IntKind.wrap .i64 (((1 : Nat) : Int) + ((l.depth : Nat) : Int)))), (23, .int .i64 ((l.depth : Nat) : Int))]) (fun φ6 => []) (fun φ6 => []) s trivial (fun φ6 => by kernel_rfl) ?_
        intro φ6 w6 s
        rw [nat_addI (a := 1) (b := l.depth) (by omega)]
        refine ops_done (by kernel_rfl) ?_
        refine wp_ret ?_
        refine ret_rule (C := []) [] [] (.int .i64 ((1 + l.depth : Nat) : Int)) [] [] s trivial (by kernel_rfl) ?_
        exact ⟨_, _, _, rfl, s, (by have hc := of_decide_eq_true hc5; show _ = Value.int .i64 ((1 + max l.depth r.depth : Nat) : Int); rw [Nat.max_eq_left (by omega)])⟩
      ·
        rw [hc5]
        refine cond_false_rule (b := false) (by kernel_rfl) rfl ?_
        refine wp_skip ?_
        refine wp_seq ?_
        refine region_rule ?_
        refine ops_rule (C := []) [] [] 3 [] 0 (fun φ7 => [(2, .int .i64 (IntKind.wrap .i64 (((1 : Nat) : Int) + ((r.depth : Nat) : Int)))), (26, .int .i64 (IntKind.wrap .i64 (((1 : Nat) : Int) + ((r.depth : Nat) : Int)))), (25, .int .i64 ((r.depth : Nat) : Int))]) (fun φ7 => []) (fun φ7 => []) s trivial (fun φ7 => by kernel_rfl) ?_
        intro φ7 w7 s
        rw [nat_addI (a := 1) (b := r.depth) (by omega)]
        refine ops_done (by kernel_rfl) ?_
        refine wp_ret ?_
        refine ret_rule (C := []) [] [] (.int .i64 ((1 + r.depth : Nat) : Int)) [] [] s trivial (by kernel_rfl) ?_
        exact ⟨_, _, _, rfl, s, (by have hc := of_decide_eq_false hc5; show _ = Value.int .i64 ((1 + max l.depth r.depth : Nat) : Int); rw [Nat.max_eq_right (by omega)])⟩

theorem rdepth_c : ∀ (e : E) {I : IM} {k : Nat}, RE I e k → e.depth ≤ 1000 → Fun Tryd.prog 20 #[.pointer (some ⟨k, 0, none⟩)] I (fun v _ => v = .int .i64 ((e.depth : Nat) : Int))
  | .leaf n, _, _, h, ht => rdepth_step h ht (fun n l r h => by cases h)
  | .node n l r, _, _, h, ht => rdepth_step h ht (fun n' l' r' e => by
      cases e
      exact ⟨fun {J} {k} a b => rdepth_c l a b, fun {J} {k} a b => rdepth_c r a b⟩)

set_option maxHeartbeats 400000 in
theorem rcheck_c {I : IM} {e : E} {k : Nat} (h : RE I e k) (hd : e.depth ≤ 16) (ht : e.top ≤ 1048576) : Fun Tryd.prog 79 #[.pointer (some ⟨k, 0, none⟩)] I (fun v J => v = .int .i64 0) := by
  refine enter_rule 9 [(0, .pointer (some ⟨k, 0, none⟩))] Tryd.func79 rfl (by kernel_rfl) ?_
  intro w s
  refine wp_seq ?_
  refine region_rule ?_
  refine ops_rule (C := []) [] [] 1 [] 0 (fun φ1 => [(2, .int .i64 0)]) (fun φ1 => []) (fun φ1 => []) s trivial (fun φ1 => by kernel_rfl) ?_
  intro φ1 w1 s
  refine ops_done (by kernel_rfl) ?_
  refine wp_seq ?_
  refine wp_seq ?_
  refine region_rule ?_
  refine ops_rule (C := []) [] [] 1 [] 0 (fun φ2 => [(3, .pointer (some ⟨k, 0, none⟩))]) (fun φ2 => []) (fun φ2 => []) s trivial (fun φ2 => by kernel_rfl) ?_
  intro φ2 w2 s
  refine call_rule (some 4) s (rdepth_c e h (by omega)) (by kernel_rfl) ?_
  intro v3 I3 w3 le3 h3 s
  replace h := RE.mono le3 h
  obtain rfl := h3
  refine ops_rule (C := []) [] [] 1 [] 0 (fun φ4 => [(5, .bool (decide (((e.depth : Nat) : Int) > ((16 : Nat) : Int))))]) (fun φ4 => []) (fun φ4 => []) s trivial (fun φ4 => by kernel_rfl) ?_
  intro φ4 w4 s
  rw [nat_gtr (a := e.depth) (b := 16)]
  refine ops_done (by kernel_rfl) ?_
  rcases Bool.eq_false_or_eq_true (decide (16 < e.depth)) with hc5 | hc5
  ·
    exact absurd (of_decide_eq_true hc5) (by omega)
  ·
    rw [hc5]
    refine cond_false_rule (b := false) (by kernel_rfl) rfl ?_
    refine wp_skip ?_
    refine wp_seq ?_
    refine wp_seq ?_
    refine region_rule ?_
    refine ops_rule (C := []) [] [] 1 [] 0 (fun φ6 => [(6, .pointer (some ⟨k, 0, none⟩))]) (fun φ6 => []) (fun φ6 => []) s trivial (fun φ6 => by kernel_rfl) ?_
    intro φ6 w6 s
    refine call_rule (some 7) s (rmax_c e h (by omega)) (by kernel_rfl) ?_
    intro v7 I7 w7 le7 h7 s
    replace h := RE.mono le7 h
    obtain rfl := h7
    refine ops_rule (C := []) [] [] 1 [] 0 (fun φ8 => [(8, .bool (decide (((e.top : Nat) : Int) > ((1048576 : Nat) : Int))))]) (fun φ8 => []) (fun φ8 => []) s trivial (fun φ8 => by kernel_rfl) ?_
    intro φ8 w8 s
    rw [nat_gtr (a := e.top) (b := 1048576)]
    refine ops_done (by kernel_rfl) ?_
    rcases Bool.eq_false_or_eq_true (decide (1048576 < e.top)) with hc9 | hc9
    ·
      exact absurd (of_decide_eq_true hc9) (by omega)
    ·
      rw [hc9]
      refine cond_false_rule (b := false) (by kernel_rfl) rfl ?_
      refine wp_skip ?_
      refine wp_seq ?_
      refine region_rule ?_
      refine ops_rule (C := []) [] [] 1 [] 0 (fun φ10 => [(2, .int .i64 0)]) (fun φ10 => []) (fun φ10 => []) s trivial (fun φ10 => by kernel_rfl) ?_
      intro φ10 w10 s
      refine ops_done (by kernel_rfl) ?_
      refine wp_ret ?_
      refine ret_rule (C := []) [] [] (.int .i64 0) [] [] s trivial (by kernel_rfl) ?_
      exact ⟨_, _, _, rfl, s, rfl⟩

set_option maxHeartbeats 2000000 in
theorem rtick_c {I : IM} {i : T} {e : E} {ki ke : Nat} (hri : RT I i ki) (hre : RE I e ke) (hl : i.nf) (hn : e.nf) (hi : i.depth ≤ 6) (he : e.depth ≤ 6) (ht : e.top ≤ 1000000) : Fun Tryd.prog 46 #[.agg #[.pointer (some ⟨ki, 0, none⟩), .pointer (some ⟨ke, 0, none⟩)]] I (fun v J => ∃ ki ke, v = .tuple #[.agg #[.pointer (some ⟨ki, 0, none⟩), .pointer (some ⟨ke, 0, none⟩)], .int .i64 (((tickD i e).2 : Nat) : Int)] ∧ RT J i ki ∧ RE J (tickD i e).1 ke) := by
  have hfb := fill_bounds e i
  have hgl := growD_le 40 i e
  refine enter_rule 47 [(0, .agg #[.pointer (some ⟨ki, 0, none⟩), .pointer (some ⟨ke, 0, none⟩)])] Tryd.func46 rfl (by kernel_rfl) ?_
  intro w s
  refine wp_seq ?_
  refine region_rule ?_
  refine ops_rule (C := []) [] [] 3 [] 2 (fun φ1 => [(3, .int .i64 0), (2, .pointer (some ⟨(φ1 1), 0, none⟩)), (1, .pointer (some ⟨(φ1 0), 0, none⟩))]) (fun φ1 => [((φ1 0), .cells #[.pointer (some ⟨ki, 0, none⟩), .pointer (some ⟨ke, 0, none⟩)] 67), ((φ1 1), .cells #[.pointer none, .pointer none] 67)]) (fun φ1 => []) s trivial (fun φ1 => by kernel_rfl) ?_
  intro φ1 w1 s
  refine ops_done (by kernel_rfl) ?_
  refine wp_seq ?_
  refine region_rule ?_
  refine ops_rule (C := []) [((φ1 0), .cells #[.pointer (some ⟨ki, 0, none⟩), .pointer (some ⟨ke, 0, none⟩)] 67), ((φ1 1), .cells #[.pointer none, .pointer none] 67)] [] 4 [.o 0, .o 0] 0 (fun φ2 => [(11, .pointer (some ⟨ke, 0, none⟩)), (10, .pointer (some ⟨(φ1 0), 1, none⟩)), (9, .pointer (some ⟨ki, 0, none⟩)), (8, .pointer (some ⟨(φ1 0), 0, none⟩))]) (fun φ2 => [((φ1 0), .cells #[.pointer (some ⟨ki, 0, none⟩), .pointer (some ⟨ke, 0, none⟩)] 67), ((φ1 1), .cells #[.pointer none, .pointer none] 67)]) (fun φ2 => [(φ1 0), (φ1 0)]) s trivial (fun φ2 => by kernel_rfl) ?_
  intro φ2 w2 s
  refine call_rule (some 12) s (rfill_c e i hn (by omega) hri hre) (by kernel_rfl) ?_
  intro v3 I3 w3 le3 h3 s
  replace hri := RT.mono le3 hri
  replace hre := RE.mono le3 hre
  obtain ⟨k3, rfl, h3_0⟩ := h3
  refine ops_rule (C := []) [((φ1 0), .cells #[.pointer (some ⟨ki, 0, none⟩), .pointer (some ⟨ke, 0, none⟩)] 67), ((φ1 1), .cells #[.pointer none, .pointer none] 67)] [] 1 [] 0 (fun φ4 => [(4, .pointer (some ⟨k3, 0, none⟩))]) (fun φ4 => [((φ1 0), .cells #[.pointer (some ⟨ki, 0, none⟩), .pointer (some ⟨ke, 0, none⟩)] 67), ((φ1 1), .cells #[.pointer none, .pointer none] 67)]) (fun φ4 => []) s trivial (fun φ4 => by kernel_rfl) ?_
  intro φ4 w4 s
  refine ops_done (by kernel_rfl) ?_
  refine wp_seq ?_
  refine wp_seq ?_
  refine region_rule ?_
  refine ops_rule (C := []) [((φ1 0), .cells #[.pointer (some ⟨ki, 0, none⟩), .pointer (some ⟨ke, 0, none⟩)] 67), ((φ1 1), .cells #[.pointer none, .pointer none] 67)] [] 3 [.o 0] 0 (fun φ5 => [(15, .pointer (some ⟨ke, 0, none⟩)), (14, .pointer (some ⟨(φ1 0), 1, none⟩)), (13, .pointer (some ⟨k3, 0, none⟩))]) (fun φ5 => [((φ1 0), .cells #[.pointer (some ⟨ki, 0, none⟩), .pointer (some ⟨ke, 0, none⟩)] 67), ((φ1 1), .cells #[.pointer none, .pointer none] 67)]) (fun φ5 => [(φ1 0)]) s trivial (fun φ5 => by kernel_rfl) ?_
  intro φ5 w5 s
  refine call_rule (some 16) s (rsame_c (A := fillE i e) (B := e) (fill_nf i hn) hn (by omega) (by omega) (by omega) (by omega) h3_0 hre) (by kernel_rfl) ?_
  intro v6 I6 w6 le6 h6 s
  replace hri := RT.mono le6 hri
  replace hre := RE.mono le6 hre
  replace h3_0 := RE.mono le6 h3_0
  obtain rfl := h6
  refine ops_rule (C := []) [((φ1 0), .cells #[.pointer (some ⟨ki, 0, none⟩), .pointer (some ⟨ke, 0, none⟩)] 67), ((φ1 1), .cells #[.pointer none, .pointer none] 67)] [] 1 [] 0 (fun φ7 => [(17, .bool (!((leqF 64 (fillE i e) e && leqF 64 e (fillE i e)))))]) (fun φ7 => [((φ1 0), .cells #[.pointer (some ⟨ki, 0, none⟩), .pointer (some ⟨ke, 0, none⟩)] 67), ((φ1 1), .cells #[.pointer none, .pointer none] 67)]) (fun φ7 => []) s trivial (fun φ7 => by kernel_rfl) ?_
  intro φ7 w7 s
  refine ops_done (by kernel_rfl) ?_
  rcases Bool.eq_false_or_eq_true ((leqF 64 (fillE i e) e && leqF 64 e (fillE i e))) with hc8 | hc8
  ·
    rw [hc8]
    refine cond_false_rule (b := false) (by kernel_rfl) rfl ?_
    refine wp_skip ?_
    refine wp_seq ?_
    refine wp_seq ?_
    refine region_rule ?_
    obtain ⟨pl9, pr9, hp9⟩ := RT.peek hri
    refine ops_rule (C := [(ki, .cells #[.int .i64 ((kindT i : Nat) : Int), .pointer pl9, .pointer pr9] 84)]) [((φ1 0), .cells #[.pointer (some ⟨ki, 0, none⟩), .pointer (some ⟨ke, 0, none⟩)] 67), ((φ1 1), .cells #[.pointer none, .pointer none] 67)] [] 6 [.o 0, .c 0] 0 (fun φ9 => [(27, .bool (((kindT i : Nat) : Int) == ((0 : Nat) : Int))), (26, .int .i64 ((kindT i : Nat) : Int)), (25, .pointer (some ⟨ki, 0, none⟩)), (24, .pointer (some ⟨ki, 0, none⟩)), (23, .pointer (some ⟨ki, 0, none⟩)), (22, .pointer (some ⟨(φ1 0), 0, none⟩))]) (fun φ9 => [((φ1 0), .cells #[.pointer (some ⟨ki, 0, none⟩), .pointer (some ⟨ke, 0, none⟩)] 67), ((φ1 1), .cells #[.pointer none, .pointer none] 67)]) (fun φ9 => [(φ1 0), ki]) s ⟨hp9, trivial⟩ (fun φ9 => by kernel_rfl) ?_
    intro φ9 w9 s
    rw [nat_eql (a := (kindT i)) (b := 0)]
    refine ops_done (by kernel_rfl) ?_
    rcases Bool.eq_false_or_eq_true (decide ((kindT i) = 0)) with hc11 | hc11
    ·
      rw [hc11]
      refine cond_true_rule (b := true) (by kernel_rfl) rfl ?_
      refine wp_seq ?_
      refine region_rule ?_
      refine ops_rule (C := []) [((φ1 0), .cells #[.pointer (some ⟨ki, 0, none⟩), .pointer (some ⟨ke, 0, none⟩)] 67), ((φ1 1), .cells #[.pointer none, .pointer none] 67)] [] 3 [.o 0, .o 0, .o 1, .o 1] 0 (fun φ12 => [(3, .int .i64 2), (28, .agg #[.pointer (some ⟨ki, 0, none⟩), .pointer (some ⟨ke, 0, none⟩)])]) (fun φ12 => [((φ1 0), .cells #[.pointer (some ⟨ki, 0, none⟩), .pointer (some ⟨ke, 0, none⟩)] 67), ((φ1 1), .cells #[.pointer (some ⟨ki, 0, none⟩), .pointer (some ⟨ke, 0, none⟩)] 67)]) (fun φ12 => [(φ1 0), (φ1 0), (φ1 1), (φ1 1)]) s trivial (fun φ12 => by kernel_rfl) ?_
      intro φ12 w12 s
      refine ops_done (by kernel_rfl) ?_
      refine wp_ret ?_
      refine ret_rule (C := []) [((φ1 0), .cells #[.pointer (some ⟨ki, 0, none⟩), .pointer (some ⟨ke, 0, none⟩)] 67), ((φ1 1), .cells #[.pointer (some ⟨ki, 0, none⟩), .pointer (some ⟨ke, 0, none⟩)] 67)] [] (.tuple #[.agg #[.pointer (some ⟨ki, 0, none⟩), .pointer (some ⟨ke, 0, none⟩)], .int .i64 2]) [.o 1, .o 1] [(φ1 1), (φ1 1)] s trivial (by kernel_rfl) ?_
      exact ⟨_, _, _, rfl, s, (by rw [tickD, if_pos (show sameB i e = true from hc8), if_pos (of_decide_eq_true hc11)]; exact ⟨_, _, rfl, hri, hre⟩)⟩
    ·
      rw [hc11]
      refine cond_false_rule (b := false) (by kernel_rfl) rfl ?_
      refine wp_skip ?_
      refine wp_seq ?_
      refine region_rule ?_
      refine ops_rule (C := []) [((φ1 0), .cells #[.pointer (some ⟨ki, 0, none⟩), .pointer (some ⟨ke, 0, none⟩)] 67), ((φ1 1), .cells #[.pointer none, .pointer none] 67)] [] 4 [.o 0, .o 0] 0 (fun φ13 => [(33, .pointer (some ⟨ke, 0, none⟩)), (32, .pointer (some ⟨(φ1 0), 1, none⟩)), (31, .pointer (some ⟨ki, 0, none⟩)), (30, .pointer (some ⟨(φ1 0), 0, none⟩))]) (fun φ13 => [((φ1 0), .cells #[.pointer (some ⟨ki, 0, none⟩), .pointer (some ⟨ke, 0, none⟩)] 67), ((φ1 1), .cells #[.pointer none, .pointer none] 67)]) (fun φ13 => [(φ1 0), (φ1 0)]) s trivial (fun φ13 => by kernel_rfl) ?_
      intro φ13 w13 s
      refine call_rule (some 34) s (rgrow_c 40 (by omega) (T.nf_live hl) (of_decide_eq_false hc11) (by omega) hn (by omega) hri hre) (by kernel_rfl) ?_
      intro v14 I14 w14 le14 h14 s
      replace hri := RT.mono le14 hri
      replace hre := RE.mono le14 hre
      replace h3_0 := RE.mono le14 h3_0
      replace hp9 := le14 _ _ hp9
      obtain ⟨k14, rfl, h14_0⟩ := h14
      refine ops_rule (C := []) [((φ1 0), .cells #[.pointer (some ⟨ki, 0, none⟩), .pointer (some ⟨ke, 0, none⟩)] 67), ((φ1 1), .cells #[.pointer none, .pointer none] 67)] [] 5 [] 0 (fun φ15 => [(6, .int .i64 (((growD 40 i e).2 : Nat) : Int)), (5, .pointer (some ⟨k14, 0, none⟩)), (36, .int .i64 (((growD 40 i e).2 : Nat) : Int)), (35, .pointer (some ⟨k14, 0, none⟩)), (29, .tuple #[.pointer (some ⟨k14, 0, none⟩), .int .i64 (((growD 40 i e).2 : Nat) : Int)])]) (fun φ15 => [((φ1 0), .cells #[.pointer (some ⟨ki, 0, none⟩), .pointer (some ⟨ke, 0, none⟩)] 67), ((φ1 1), .cells #[.pointer none, .pointer none] 67)]) (fun φ15 => []) s trivial (fun φ15 => by kernel_rfl) ?_
      intro φ15 w15 s
      refine ops_done (by kernel_rfl) ?_
      refine wp_seq ?_
      refine wp_seq ?_
      refine region_rule ?_
      refine ops_rule (C := []) [((φ1 0), .cells #[.pointer (some ⟨ki, 0, none⟩), .pointer (some ⟨ke, 0, none⟩)] 67), ((φ1 1), .cells #[.pointer none, .pointer none] 67)] [] 1 [] 0 (fun φ16 => [(37, .pointer (some ⟨k14, 0, none⟩))]) (fun φ16 => [((φ1 0), .cells #[.pointer (some ⟨ki, 0, none⟩), .pointer (some ⟨ke, 0, none⟩)] 67), ((φ1 1), .cells #[.pointer none, .pointer none] 67)]) (fun φ16 => []) s trivial (fun φ16 => by kernel_rfl) ?_
      intro φ16 w16 s
      refine call_rule (some 38) s (rcheck_c h14_0 (by have := growD_small hl (of_decide_eq_false hc11) hi he ht; omega) (by have := growD_top 40 i e; omega)) (by kernel_rfl) ?_
      intro v17 I17 w17 le17 h17 s
      replace hri := RT.mono le17 hri
      replace hre := RE.mono le17 hre
      replace h3_0 := RE.mono le17 h3_0
      replace h14_0 := RE.mono le17 h14_0
      replace hp9 := le17 _ _ hp9
      obtain rfl := h17
      refine ops_rule (C := []) [((φ1 0), .cells #[.pointer (some ⟨ki, 0, none⟩), .pointer (some ⟨ke, 0, none⟩)] 67), ((φ1 1), .cells #[.pointer none, .pointer none] 67)] [] 1 [] 0 (fun φ18 => [(7, .int .i64 0)]) (fun φ18 => [((φ1 0), .cells #[.pointer (some ⟨ki, 0, none⟩), .pointer (some ⟨ke, 0, none⟩)] 67), ((φ1 1), .cells #[.pointer none, .pointer none] 67)]) (fun φ18 => []) s trivial (fun φ18 => by kernel_rfl) ?_
      intro φ18 w18 s
      refine ops_done (by kernel_rfl) ?_
      refine wp_seq ?_
      refine region_rule ?_
      refine ops_rule (C := []) [((φ1 0), .cells #[.pointer (some ⟨ki, 0, none⟩), .pointer (some ⟨ke, 0, none⟩)] 67), ((φ1 1), .cells #[.pointer none, .pointer none] 67)] [] 2 [] 0 (fun φ19 => [(40, .bool false), (39, .int .i64 0)]) (fun φ19 => [((φ1 0), .cells #[.pointer (some ⟨ki, 0, none⟩), .pointer (some ⟨ke, 0, none⟩)] 67), ((φ1 1), .cells #[.pointer none, .pointer none] 67)]) (fun φ19 => []) s trivial (fun φ19 => by kernel_rfl) ?_
      intro φ19 w19 s
      refine ops_done (by kernel_rfl) ?_
      refine cond_false_rule (b := false) (by kernel_rfl) rfl ?_
      refine wp_skip ?_
      refine wp_seq ?_
      refine region_rule ?_
      refine ops_rule (C := []) [((φ1 0), .cells #[.pointer (some ⟨ki, 0, none⟩), .pointer (some ⟨ke, 0, none⟩)] 67), ((φ1 1), .cells #[.pointer none, .pointer none] 67)] [] 6 [.o 0, .o 1, .o 1] 0 (fun φ20 => [(3, .int .i64 0), (46, .agg #[.pointer (some ⟨ki, 0, none⟩), .pointer (some ⟨k14, 0, none⟩)]), (45, .pointer (some ⟨k14, 0, none⟩)), (44, .pointer (some ⟨ki, 0, none⟩)), (43, .pointer (some ⟨(φ1 0), 0, none⟩))]) (fun φ20 => [((φ1 0), .cells #[.pointer (some ⟨ki, 0, none⟩), .pointer (some ⟨ke, 0, none⟩)] 67), ((φ1 1), .cells #[.pointer (some ⟨ki, 0, none⟩), .pointer (some ⟨k14, 0, none⟩)] 67)]) (fun φ20 => [(φ1 0), (φ1 1), (φ1 1)]) s trivial (fun φ20 => by kernel_rfl) ?_
      intro φ20 w20 s
      refine ops_done (by kernel_rfl) ?_
      refine wp_ret ?_
      refine ret_rule (C := []) [((φ1 0), .cells #[.pointer (some ⟨ki, 0, none⟩), .pointer (some ⟨ke, 0, none⟩)] 67), ((φ1 1), .cells #[.pointer (some ⟨ki, 0, none⟩), .pointer (some ⟨k14, 0, none⟩)] 67)] [] (.tuple #[.agg #[.pointer (some ⟨ki, 0, none⟩), .pointer (some ⟨k14, 0, none⟩)], .int .i64 0]) [.o 1, .o 1] [(φ1 1), (φ1 1)] s trivial (by kernel_rfl) ?_
      exact ⟨_, _, _, rfl, s, (by rw [tickD, if_pos (show sameB i e = true from hc8), if_neg (of_decide_eq_false hc11)]; exact ⟨_, _, rfl, hri, h14_0⟩)⟩
  ·
    rw [hc8]
    refine cond_true_rule (b := true) (by kernel_rfl) rfl ?_
    refine wp_seq ?_
    refine region_rule ?_
    refine ops_rule (C := []) [((φ1 0), .cells #[.pointer (some ⟨ki, 0, none⟩), .pointer (some ⟨ke, 0, none⟩)] 67), ((φ1 1), .cells #[.pointer none, .pointer none] 67)] [] 6 [.o 0, .o 1, .o 1] 0 (fun φ21 => [(3, .int .i64 0), (21, .agg #[.pointer (some ⟨ki, 0, none⟩), .pointer (some ⟨k3, 0, none⟩)]), (20, .pointer (some ⟨k3, 0, none⟩)), (19, .pointer (some ⟨ki, 0, none⟩)), (18, .pointer (some ⟨(φ1 0), 0, none⟩))]) (fun φ21 => [((φ1 0), .cells #[.pointer (some ⟨ki, 0, none⟩), .pointer (some ⟨ke, 0, none⟩)] 67), ((φ1 1), .cells #[.pointer (some ⟨ki, 0, none⟩), .pointer (some ⟨k3, 0, none⟩)] 67)]) (fun φ21 => [(φ1 0), (φ1 1), (φ1 1)]) s trivial (fun φ21 => by kernel_rfl) ?_
    intro φ21 w21 s
    refine ops_done (by kernel_rfl) ?_
    refine wp_ret ?_
    refine ret_rule (C := []) [((φ1 0), .cells #[.pointer (some ⟨ki, 0, none⟩), .pointer (some ⟨ke, 0, none⟩)] 67), ((φ1 1), .cells #[.pointer (some ⟨ki, 0, none⟩), .pointer (some ⟨k3, 0, none⟩)] 67)] [] (.tuple #[.agg #[.pointer (some ⟨ki, 0, none⟩), .pointer (some ⟨k3, 0, none⟩)], .int .i64 0]) [.o 1, .o 1] [(φ1 1), (φ1 1)] s trivial (by kernel_rfl) ?_
    exact ⟨_, _, _, rfl, s, (by rw [tickD, if_neg (by rw [(show sameB i e = false from hc8)]; simp)]; exact ⟨_, _, rfl, hri, h3_0⟩)⟩

end Go.Proofs.YtgdickihjaomjaaDoor
