/- Heights are upon the base, half by half. -/
import Derived.Test.YtgdickihjaomjaaDoorEhP32
set_option linter.all false
set_option maxRecDepth 100000
namespace Go.Proofs.YtgdickihjaomjaaDoor
open Go.RowKit Go.Sep
attribute [local irreducible] Go.wpList Go.Code.wp
theorem ERep.base_eq {I : IM} : ∀ {t : E} {b : Nat} {p : Option Addr}, ERep I t b p → t.base = b
  | .leaf _, _, _, ⟨h, _⟩ => h.symm
  | .node _ _ _, _, _, ⟨h, _⟩ => h.symm
theorem nodeUp_c {I : IM} {n b : Nat} {l r : E} {bl br : Nat} {pl pr : Option Addr} (hnf : (E.node b l r).nf) (hd : (E.node b l r).depth ≤ 16) (ht : n + (E.node b l r).top ≤ 1048576) (hl : ERep I l bl pl) (hr : ERep I r br pr) : Fun Tryd.prog 18 #[.int .u64 ((n + b : Nat) : Int), evv bl pl, evv br pr] I (fun v J => ∃ b' p, v = .tuple #[evv b' p, .int .i64 0] ∧ ERep J (E.up n (E.node b l r)) b' p) := by
  have ht1 : n + (b + max l.top r.top) ≤ 1048576 := ht
  rw [Nat.add_comm n b]
  exact nodeOk9_c (E.up_nf (k := n) hnf).2.2 (show b + n + max l.top r.top ≤ 1048576 by omega) hd hl hr
theorem ok_half {e : E} (o : e.ok) : (E.up e.base e.left).ok ∧ (E.up e.base e.right).ok := by
  obtain ⟨h1, h2, h3⟩ := o
  have a := E.half_top e
  have b := E.half_depth e 5 (by omega)
  have c := E.half_nf h1
  exact ⟨⟨E.up_nf c.1, by omega, by omega⟩, ⟨E.up_nf c.2, by omega, by omega⟩⟩
theorem leq_halves {A B : E} (oA : A.ok) (oB : B.ok) : leqF 64 A B = (leqF 64 (E.up A.base A.left) (E.up B.base B.left) && leqF 64 (E.up A.base A.right) (E.up B.base B.right)) := by
  obtain ⟨⟨a1, a2, -⟩, a3, a4, -⟩ := ok_half oA
  obtain ⟨⟨b1, b2, -⟩, b3, b4, -⟩ := ok_half oB
  rw [Bool.eq_iff_iff, Bool.and_eq_true, leq_at oA oB, leq_iff 64 15 _ _ a1 b1 (by omega) (by omega) (by omega) (by omega), leq_iff 64 15 _ _ a3 b3 (by omega) (by omega) (by omega) (by omega)]
  exact halves_iff 15 A B
theorem nodeH_c {I : IM} {L R : E} {bl br : Nat} {pl pr : Option Addr} (hl : ERep I L bl pl) (hr : ERep I R br pr) (oL : L.ok) (oR : R.ok) : Fun Tryd.prog 18 #[.int .u64 0, evv bl pl, evv br pr] I (fun v J => ∃ b p, v = .tuple #[evv b p, .int .i64 0] ∧ ERep J (E.mk 0 L R) b p) := by
  obtain ⟨a1, a2, a3⟩ := oL
  obtain ⟨b1, b2, b3⟩ := oR
  exact nodeOk_c (n := 0) hl hr (by omega) (by omega) (by omega)
theorem sameH_c {I : IM} {A B : E} {bc bd : Nat} {pc pd : Option Addr} (oA : A.ok) (oB : B.ok) (hC : ERep I (E.mk 0 (joinF 64 (E.up A.base A.left) (E.up B.base B.left)) (joinF 64 (E.up A.base A.right) (E.up B.base B.right))) bc pc) (hD : ERep I (joinF 64 A B) bd pd) : Fun Tryd.prog 30 #[evv bc pc, evv bd pd] I (fun v J => v = .bool true) := by
  obtain ⟨⟨a1, a2, a5⟩, a3, a4, a6⟩ := ok_half oA
  obtain ⟨⟨b1, b2, b5⟩, b3, b4, b6⟩ := ok_half oB
  obtain ⟨l1, l2, l3⟩ := join_at 64 15 a1 b1 (by omega) (by omega) (by omega) (by omega)
  obtain ⟨r1, r2, r3⟩ := join_at 64 15 a3 b3 (by omega) (by omega) (by omega) (by omega)
  obtain ⟨⟨d1, d2, d3⟩, d4⟩ := ok_join oA oB
  have t1 := joinF_top 64 (E.up A.base A.left) (E.up B.base B.left)
  have t2 := joinF_top 64 (E.up A.base A.right) (E.up B.base B.right)
  have m1 := E.mk_depth 0 (joinF 64 (E.up A.base A.left) (E.up B.base B.left)) (joinF 64 (E.up A.base A.right) (E.up B.base B.right))
  have m2 := E.mk_top_eq 0 (joinF 64 (E.up A.base A.left) (E.up B.base B.left)) (joinF 64 (E.up A.base A.right) (E.up B.base B.right))
  have m3 := E.nf_mk (n := 0) l1 r1
  refine (same_c hC hD (by omega) (by omega) (by omega) (by omega)).mono fun v J _ hv => ?_
  obtain ⟨h1, h2⟩ := same_of_at m3 d1 (by omega) (by omega) (fun k => by
    rw [hAt_mk 15, d4, hAt_half 15 A, hAt_half 15 B, l3, r3, hAt_up, hAt_up, hAt_up, hAt_up]
    split <;> omega)
  rw [hv, h1, h2]; rfl

set_option maxHeartbeats 2000000 in
theorem upE_c {I : IM} {e : E} {b n : Nat} {p : Option Addr} (h : ERep I e b p) (hnf : e.nf) (hd : e.depth ≤ 16) (ht : n + e.top ≤ 1048576) : Fun Tryd.prog 36 #[evv b p, .int .u64 ((n : Nat) : Int)] I (fun v J => ∃ b' p', v = evv b' p' ∧ ERep J (E.up n e) b' p') := by
  cases e with
  | leaf m =>
    obtain ⟨rfl, rfl⟩ := h
    have ht1 : n + b ≤ 1048576 := ht
    refine enter_rule 31 [(0, .agg #[.int .u64 ((b : Nat) : Int), .pointer none]), (1, .int .u64 ((n : Nat) : Int))] Tryd.func36 rfl (by kernel_rfl) ?_
    intro w s
    refine wp_seq ?_
    refine region_rule ?_
    refine ops_rule (C := []) [] [] 2 [] 2 (fun φ1 => [(4, .pointer (some ⟨(φ1 1), 0, none⟩)), (2, .pointer (some ⟨(φ1 0), 0, none⟩))]) (fun φ1 => [((φ1 0), .cells #[.int .u64 ((b : Nat) : Int), .pointer none] 27), ((φ1 1), .cells #[.int .u64 0, .pointer none] 27)]) (fun φ1 => []) s trivial (fun φ1 => by kernel_rfl) ?_
    intro φ1 w1 s
    refine ops_done (by kernel_rfl) ?_
    refine wp_seq ?_
    refine region_rule ?_
    refine ops_rule (C := []) [((φ1 0), .cells #[.int .u64 ((b : Nat) : Int), .pointer none] 27), ((φ1 1), .cells #[.int .u64 0, .pointer none] 27)] [] 2 [.o 0, .o 0] 0 (fun φ2 => [(9, .agg #[.int .u64 ((b : Nat) : Int), .pointer none]), (8, .int .u64 ((n : Nat) : Int))]) (fun φ2 => [((φ1 0), .cells #[.int .u64 ((b : Nat) : Int), .pointer none] 27), ((φ1 1), .cells #[.int .u64 0, .pointer none] 27)]) (fun φ2 => [(φ1 0), (φ1 0)]) s trivial (fun φ2 => by kernel_rfl) ?_
    intro φ2 w2 s
    refine call_rule (some 10) s (base_c (ERep.lf _ b)) (by kernel_rfl) ?_
    intro v3 I3 w3 le3 h3 s
    obtain rfl := h3
    refine ops_rule (C := []) [((φ1 0), .cells #[.int .u64 ((b : Nat) : Int), .pointer none] 27), ((φ1 1), .cells #[.int .u64 0, .pointer none] 27)] [] 1 [] 0 (fun φ4 => [(11, .int .u64 (IntKind.wrap .u64 (((n : Nat) : Int) + ((b : Nat) : Int))))]) (fun φ4 => [((φ1 0), .cells #[.int .u64 ((b : Nat) : Int), .pointer none] 27), ((φ1 1), .cells #[.int .u64 0, .pointer none] 27)]) (fun φ4 => []) s trivial (fun φ4 => by kernel_rfl) ?_
    intro φ4 w4 s
    rw [nat_addU (a := n) (b := b) (by omega)]
    refine call_rule (some 12) s (leafOk_c (n := (n + b)) (by omega)) (by kernel_rfl) ?_
    intro v5 I5 w5 le5 h5 s
    obtain rfl := h5
    refine ops_rule (C := []) [((φ1 0), .cells #[.int .u64 ((b : Nat) : Int), .pointer none] 27), ((φ1 1), .cells #[.int .u64 0, .pointer none] 27)] [] 6 [.o 2, .o 2] 1 (fun φ6 => [(6, .int .i64 0), (5, .pointer (some ⟨(φ6 0), 0, none⟩)), (14, .int .i64 0), (13, .agg #[.int .u64 ((n + b : Nat) : Int), .pointer none]), (7, .tuple #[.agg #[.int .u64 ((n + b : Nat) : Int), .pointer none], .int .i64 0])]) (fun φ6 => [((φ1 0), .cells #[.int .u64 ((b : Nat) : Int), .pointer none] 27), ((φ1 1), .cells #[.int .u64 0, .pointer none] 27), ((φ6 0), .cells #[.int .u64 ((n + b : Nat) : Int), .pointer none] 27)]) (fun φ6 => [(φ6 0), (φ6 0)]) s trivial (fun φ6 => by kernel_rfl) ?_
    intro φ6 w6 s
    refine ops_done (by kernel_rfl) ?_
    refine wp_seq ?_
    refine wp_seq ?_
    refine region_rule ?_
    refine ops_rule (C := []) [((φ1 0), .cells #[.int .u64 ((b : Nat) : Int), .pointer none] 27), ((φ1 1), .cells #[.int .u64 0, .pointer none] 27), ((φ6 0), .cells #[.int .u64 ((n + b : Nat) : Int), .pointer none] 27)] [] 1 [.o 0, .o 0] 0 (fun φ7 => [(15, .agg #[.int .u64 ((b : Nat) : Int), .pointer none])]) (fun φ7 => [((φ1 0), .cells #[.int .u64 ((b : Nat) : Int), .pointer none] 27), ((φ1 1), .cells #[.int .u64 0, .pointer none] 27), ((φ6 0), .cells #[.int .u64 ((n + b : Nat) : Int), .pointer none] 27)]) (fun φ7 => [(φ1 0), (φ1 0)]) s trivial (fun φ7 => by kernel_rfl) ?_
    intro φ7 w7 s
    refine call_rule (some 16) s (isLeaf_c (ERep.lf _ b)) (by kernel_rfl) ?_
    intro v8 I8 w8 le8 h8 s
    obtain rfl := h8
    refine ops_rule (C := []) [((φ1 0), .cells #[.int .u64 ((b : Nat) : Int), .pointer none] 27), ((φ1 1), .cells #[.int .u64 0, .pointer none] 27), ((φ6 0), .cells #[.int .u64 ((n + b : Nat) : Int), .pointer none] 27)] [] 1 [] 0 (fun φ9 => [(17, .bool false)]) (fun φ9 => [((φ1 0), .cells #[.int .u64 ((b : Nat) : Int), .pointer none] 27), ((φ1 1), .cells #[.int .u64 0, .pointer none] 27), ((φ6 0), .cells #[.int .u64 ((n + b : Nat) : Int), .pointer none] 27)]) (fun φ9 => []) s trivial (fun φ9 => by kernel_rfl) ?_
    intro φ9 w9 s
    refine ops_done (by kernel_rfl) ?_
    refine cond_false_rule (b := false) (by kernel_rfl) rfl ?_
    refine wp_skip ?_
    refine wp_seq ?_
    refine region_rule ?_
    refine ops_rule (C := []) [((φ1 0), .cells #[.int .u64 ((b : Nat) : Int), .pointer none] 27), ((φ1 1), .cells #[.int .u64 0, .pointer none] 27), ((φ6 0), .cells #[.int .u64 ((n + b : Nat) : Int), .pointer none] 27)] [] 2 [.o 2, .o 2, .o 1, .o 1] 0 (fun φ10 => [(30, .agg #[.int .u64 ((n + b : Nat) : Int), .pointer none])]) (fun φ10 => [((φ1 0), .cells #[.int .u64 ((b : Nat) : Int), .pointer none] 27), ((φ1 1), .cells #[.int .u64 ((n + b : Nat) : Int), .pointer none] 27), ((φ6 0), .cells #[.int .u64 ((n + b : Nat) : Int), .pointer none] 27)]) (fun φ10 => [(φ6 0), (φ6 0), (φ1 1), (φ1 1)]) s trivial (fun φ10 => by kernel_rfl) ?_
    intro φ10 w10 s
    refine ops_done (by kernel_rfl) ?_
    refine wp_ret ?_
    refine ret_rule (C := []) [((φ1 0), .cells #[.int .u64 ((b : Nat) : Int), .pointer none] 27), ((φ1 1), .cells #[.int .u64 ((n + b : Nat) : Int), .pointer none] 27), ((φ6 0), .cells #[.int .u64 ((n + b : Nat) : Int), .pointer none] 27)] [] (.agg #[.int .u64 ((n + b : Nat) : Int), .pointer none]) [.o 1, .o 1] [(φ1 1), (φ1 1)] s trivial (by kernel_rfl) ?_
    exact ⟨_, _, _, rfl, s, ⟨_, _, rfl, by exact ⟨by omega, rfl⟩⟩⟩
  | node m l r =>
    have hn0 := h
    obtain ⟨rfl, kk, bl, pl, br, pr, rfl, hk, hl, hr⟩ := h
    have ht1 : n + (b + max l.top r.top) ≤ 1048576 := ht
    refine enter_rule 31 [(0, .agg #[.int .u64 ((b : Nat) : Int), .pointer (some ⟨kk, 0, none⟩)]), (1, .int .u64 ((n : Nat) : Int))] Tryd.func36 rfl (by kernel_rfl) ?_
    intro w s
    refine wp_seq ?_
    refine region_rule ?_
    refine ops_rule (C := []) [] [] 2 [] 2 (fun φ1 => [(4, .pointer (some ⟨(φ1 1), 0, none⟩)), (2, .pointer (some ⟨(φ1 0), 0, none⟩))]) (fun φ1 => [((φ1 0), .cells #[.int .u64 ((b : Nat) : Int), .pointer (some ⟨kk, 0, none⟩)] 27), ((φ1 1), .cells #[.int .u64 0, .pointer none] 27)]) (fun φ1 => []) s trivial (fun φ1 => by kernel_rfl) ?_
    intro φ1 w1 s
    refine ops_done (by kernel_rfl) ?_
    refine wp_seq ?_
    refine region_rule ?_
    refine ops_rule (C := []) [((φ1 0), .cells #[.int .u64 ((b : Nat) : Int), .pointer (some ⟨kk, 0, none⟩)] 27), ((φ1 1), .cells #[.int .u64 0, .pointer none] 27)] [] 2 [.o 0, .o 0] 0 (fun φ2 => [(9, .agg #[.int .u64 ((b : Nat) : Int), .pointer (some ⟨kk, 0, none⟩)]), (8, .int .u64 ((n : Nat) : Int))]) (fun φ2 => [((φ1 0), .cells #[.int .u64 ((b : Nat) : Int), .pointer (some ⟨kk, 0, none⟩)] 27), ((φ1 1), .cells #[.int .u64 0, .pointer none] 27)]) (fun φ2 => [(φ1 0), (φ1 0)]) s trivial (fun φ2 => by kernel_rfl) ?_
    intro φ2 w2 s
    refine call_rule (some 10) s (base_c hn0) (by kernel_rfl) ?_
    intro v3 I3 w3 le3 h3 s
    replace hl := ERep.mono le3 hl
    replace hr := ERep.mono le3 hr
    replace hn0 := ERep.mono le3 hn0
    replace hk := le3 _ _ hk
    obtain rfl := h3
    refine ops_rule (C := []) [((φ1 0), .cells #[.int .u64 ((b : Nat) : Int), .pointer (some ⟨kk, 0, none⟩)] 27), ((φ1 1), .cells #[.int .u64 0, .pointer none] 27)] [] 1 [] 0 (fun φ4 => [(11, .int .u64 (IntKind.wrap .u64 (((n : Nat) : Int) + ((b : Nat) : Int))))]) (fun φ4 => [((φ1 0), .cells #[.int .u64 ((b : Nat) : Int), .pointer (some ⟨kk, 0, none⟩)] 27), ((φ1 1), .cells #[.int .u64 0, .pointer none] 27)]) (fun φ4 => []) s trivial (fun φ4 => by kernel_rfl) ?_
    intro φ4 w4 s
    rw [nat_addU (a := n) (b := b) (by omega)]
    refine call_rule (some 12) s (leafOk_c (n := (n + b)) (by omega)) (by kernel_rfl) ?_
    intro v5 I5 w5 le5 h5 s
    replace hl := ERep.mono le5 hl
    replace hr := ERep.mono le5 hr
    replace hn0 := ERep.mono le5 hn0
    replace hk := le5 _ _ hk
    obtain rfl := h5
    refine ops_rule (C := []) [((φ1 0), .cells #[.int .u64 ((b : Nat) : Int), .pointer (some ⟨kk, 0, none⟩)] 27), ((φ1 1), .cells #[.int .u64 0, .pointer none] 27)] [] 6 [.o 2, .o 2] 1 (fun φ6 => [(6, .int .i64 0), (5, .pointer (some ⟨(φ6 0), 0, none⟩)), (14, .int .i64 0), (13, .agg #[.int .u64 ((n + b : Nat) : Int), .pointer none]), (7, .tuple #[.agg #[.int .u64 ((n + b : Nat) : Int), .pointer none], .int .i64 0])]) (fun φ6 => [((φ1 0), .cells #[.int .u64 ((b : Nat) : Int), .pointer (some ⟨kk, 0, none⟩)] 27), ((φ1 1), .cells #[.int .u64 0, .pointer none] 27), ((φ6 0), .cells #[.int .u64 ((n + b : Nat) : Int), .pointer none] 27)]) (fun φ6 => [(φ6 0), (φ6 0)]) s trivial (fun φ6 => by kernel_rfl) ?_
    intro φ6 w6 s
    refine ops_done (by kernel_rfl) ?_
    refine wp_seq ?_
    refine wp_seq ?_
    refine region_rule ?_
    refine ops_rule (C := []) [((φ1 0), .cells #[.int .u64 ((b : Nat) : Int), .pointer (some ⟨kk, 0, none⟩)] 27), ((φ1 1), .cells #[.int .u64 0, .pointer none] 27), ((φ6 0), .cells #[.int .u64 ((n + b : Nat) : Int), .pointer none] 27)] [] 1 [.o 0, .o 0] 0 (fun φ7 => [(15, .agg #[.int .u64 ((b : Nat) : Int), .pointer (some ⟨kk, 0, none⟩)])]) (fun φ7 => [((φ1 0), .cells #[.int .u64 ((b : Nat) : Int), .pointer (some ⟨kk, 0, none⟩)] 27), ((φ1 1), .cells #[.int .u64 0, .pointer none] 27), ((φ6 0), .cells #[.int .u64 ((n + b : Nat) : Int), .pointer none] 27)]) (fun φ7 => [(φ1 0), (φ1 0)]) s trivial (fun φ7 => by kernel_rfl) ?_
    intro φ7 w7 s
    refine call_rule (some 16) s (isLeaf_c hn0) (by kernel_rfl) ?_
    intro v8 I8 w8 le8 h8 s
    replace hl := ERep.mono le8 hl
    replace hr := ERep.mono le8 hr
    replace hn0 := ERep.mono le8 hn0
    replace hk := le8 _ _ hk
    obtain rfl := h8
    refine ops_rule (C := []) [((φ1 0), .cells #[.int .u64 ((b : Nat) : Int), .pointer (some ⟨kk, 0, none⟩)] 27), ((φ1 1), .cells #[.int .u64 0, .pointer none] 27), ((φ6 0), .cells #[.int .u64 ((n + b : Nat) : Int), .pointer none] 27)] [] 1 [] 0 (fun φ9 => [(17, .bool true)]) (fun φ9 => [((φ1 0), .cells #[.int .u64 ((b : Nat) : Int), .pointer (some ⟨kk, 0, none⟩)] 27), ((φ1 1), .cells #[.int .u64 0, .pointer none] 27), ((φ6 0), .cells #[.int .u64 ((n + b : Nat) : Int), .pointer none] 27)]) (fun φ9 => []) s trivial (fun φ9 => by kernel_rfl) ?_
    intro φ9 w9 s
    refine ops_done (by kernel_rfl) ?_
    refine cond_true_rule (b := true) (by kernel_rfl) rfl ?_
    refine draw_rule (C := []) ⟨(fun φ10 xs10 => [.look 0 [] [], .look 0 [.o 0, .o 0] [(φ1 0), (φ1 0)], .call 37 #[.agg #[.int .u64 ((b : Nat) : Int), .pointer (some ⟨kk, 0, none⟩)]], .sub 0 [] [] (.int .u64 (IntKind.wrap .u64 (((n : Nat) : Int) + ((b : Nat) : Int)))), .look 0 [.o 0, .o 0] [(φ1 0), (φ1 0)], .call 39 #[.agg #[.int .u64 ((b : Nat) : Int), .pointer (some ⟨kk, 0, none⟩)]], .look 0 [.o 0, .o 0] [(φ1 0), (φ1 0)], .call 40 #[.agg #[.int .u64 ((b : Nat) : Int), .pointer (some ⟨kk, 0, none⟩)]], .call 18 #[.int .u64 ((n + b : Nat) : Int), .agg #[.int .u64 (((xs10 5).n 0 : Nat) : Int), .pointer ((xs10 5).p 0)], .agg #[.int .u64 (((xs10 7).n 0 : Nat) : Int), .pointer ((xs10 7).p 0)]], .look 0 [] [], .look 0 [] [], .look 0 [] [], .store 0 [.o 2, .o 2] [(φ6 0), (φ6 0)]]), (fun φ10 xs10 => [.int .u64 ((n : Nat) : Int), .agg #[.int .u64 ((b : Nat) : Int), .pointer (some ⟨kk, 0, none⟩)], .int .u64 ((b : Nat) : Int), .int .u64 ((n + b : Nat) : Int), .agg #[.int .u64 ((b : Nat) : Int), .pointer (some ⟨kk, 0, none⟩)], .agg #[.int .u64 (((xs10 5).n 0 : Nat) : Int), .pointer ((xs10 5).p 0)], .agg #[.int .u64 ((b : Nat) : Int), .pointer (some ⟨kk, 0, none⟩)], .agg #[.int .u64 (((xs10 7).n 0 : Nat) : Int), .pointer ((xs10 7).p 0)], .tuple #[.agg #[.int .u64 (((xs10 8).n 0 : Nat) : Int), .pointer ((xs10 8).p 0)], .int .i64 0], .tuple #[.agg #[.int .u64 (((xs10 8).n 0 : Nat) : Int), .pointer ((xs10 8).p 0)], .int .i64 0], .agg #[.int .u64 (((xs10 8).n 0 : Nat) : Int), .pointer ((xs10 8).p 0)], .int .i64 0, undef]), (fun φ10 xs10 => [[((φ1 0), .cells #[.int .u64 ((b : Nat) : Int), .pointer (some ⟨kk, 0, none⟩)] 27), ((φ1 1), .cells #[.int .u64 0, .pointer none] 27), ((φ6 0), .cells #[.int .u64 ((n + b : Nat) : Int), .pointer none] 27)], [((φ1 0), .cells #[.int .u64 ((b : Nat) : Int), .pointer (some ⟨kk, 0, none⟩)] 27), ((φ1 1), .cells #[.int .u64 0, .pointer none] 27), ((φ6 0), .cells #[.int .u64 (((xs10 8).n 0 : Nat) : Int), .pointer ((xs10 8).p 0)] 27)]]), (fun φ10 xs10 => [[default, default, default, default, default, default, default, default, default, default, default, default, default], [default, default, default, default, default, default, default, default, default, default, default, default, default]]), [12], [1, 1, 3, 5, 1, 3, 1, 3, 3, 1, 1, 1, 4]⟩ (fun j => ([MP.any, MP.any, MP.any, MP.any, MP.any, ⟨fun x J => ERep J l (x.n 0) (x.p 0), fun le h => ERep.mono le h⟩, MP.any, ⟨fun x J => ERep J r (x.n 0) (x.p 0), fun le h => ERep.mono le h⟩, ⟨fun x J => ERep J (E.up n (E.node b l r)) (x.n 0) (x.p 0), fun le h => ERep.mono le h⟩, MP.any, MP.any, MP.any, MP.any] : List MP).getD j MP.any) [2, 5, 7, 8] [3] [] (fun φ10 xs10 => [[none, none, none, none, none, none, none, none, none, none, none, none, none]]) (fun φ10 xs10 => [(19, .int .u64 ((n : Nat) : Int)), (20, .agg #[.int .u64 ((b : Nat) : Int), .pointer (some ⟨kk, 0, none⟩)]), (21, .int .u64 ((b : Nat) : Int)), (22, .int .u64 ((n + b : Nat) : Int)), (23, .agg #[.int .u64 ((b : Nat) : Int), .pointer (some ⟨kk, 0, none⟩)]), (24, .agg #[.int .u64 (((xs10 5).n 0 : Nat) : Int), .pointer ((xs10 5).p 0)]), (25, .agg #[.int .u64 ((b : Nat) : Int), .pointer (some ⟨kk, 0, none⟩)]), (26, .agg #[.int .u64 (((xs10 7).n 0 : Nat) : Int), .pointer ((xs10 7).p 0)]), (27, .tuple #[.agg #[.int .u64 (((xs10 8).n 0 : Nat) : Int), .pointer ((xs10 8).p 0)], .int .i64 0]), (18, .tuple #[.agg #[.int .u64 (((xs10 8).n 0 : Nat) : Int), .pointer ((xs10 8).p 0)], .int .i64 0]), (28, .agg #[.int .u64 (((xs10 8).n 0 : Nat) : Int), .pointer ((xs10 8).p 0)]), (29, .int .i64 0)]) (fun φ10 xs10 => [((φ1 0), .cells #[.int .u64 ((b : Nat) : Int), .pointer (some ⟨kk, 0, none⟩)] 27), ((φ1 1), .cells #[.int .u64 0, .pointer none] 27), ((φ6 0), .cells #[.int .u64 (((xs10 8).n 0 : Nat) : Int), .pointer ((xs10 8).p 0)] 27)]) s trivial (by kernel_rfl) (by kernel_rfl) (fun _ _ => by kernel_rfl) (fun _ _ => by kernel_rfl) ⟨fun _ _ => by kernel_rfl, fun _ _ => by kernel_rfl, fun _ _ => by kernel_rfl, fun _ _ => by kernel_rfl⟩ (fun _ _ _ => by kernel_rfl) (fun _ _ => by kernel_rfl) (fun _ _ => by kernel_rfl) (fun _ _ => by kernel_rfl) (fun _ _ => by kernel_rfl) (fun _ _ => by kernel_rfl) ⟨kcast (A := ∀ (φ10 : Nat → Nat) (xs10 : Xs), (.int .u64 (IntKind.wrap .u64 (((n : Nat) : Int) + ((b : Nat) : Int))) : Value) = .int .u64 ((n + b : Nat) : Int)) (by kernel_rfl) (fun φ10 xs10 => congrArg (Value.int .u64) ((nat_addU (a := n) (b := b) (by omega)))), trivial⟩ trivial (by kernel_rfl) ⟨?c10_2, ?c10_5, ?c10_7, ?c10_8, trivial⟩ ?k10
    case c10_2 =>
      refine kcast (A := ∀ (φ10 : Nat → Nat) (xs10 : Xs) (J2_10 : IM), I8.Le J2_10 → Fun Tryd.prog 37 #[.agg #[.int .u64 ((b : Nat) : Int), .pointer (some ⟨kk, 0, none⟩)]] J2_10 (fun v J' => ∃ x : UX, v = .int .u64 ((b : Nat) : Int) ∧ (True))) (by kernel_rfl) ?_
      intro φ10 xs10 J2_10 leJ
      have hn0 := ERep.mono leJ hn0
      exact Fun.mono (base_c hn0) (fun v J' _ h => ⟨UX.d, h, trivial⟩)
    case c10_5 =>
      refine kcast (A := ∀ (φ10 : Nat → Nat) (xs10 : Xs) (J5_10 : IM), I8.Le J5_10 → (True) → Fun Tryd.prog 39 #[.agg #[.int .u64 ((b : Nat) : Int), .pointer (some ⟨kk, 0, none⟩)]] J5_10 (fun v J' => ∃ x : UX, v = .agg #[.int .u64 ((x.n 0 : Nat) : Int), .pointer (x.p 0)] ∧ (ERep J' l (x.n 0) (x.p 0)))) (by kernel_rfl) ?_
      intro φ10 xs10 J5_10 leJ
      rintro _
      have hn0 := ERep.mono leJ hn0
      exact Fun.mono (left_c hn0) (fun v J' _ ⟨y0, y1, hv, g0⟩ => ⟨{ UX.d with n := fun j => y0, p := fun j => y1 }, hv, g0⟩)
    case c10_7 =>
      refine kcast (A := ∀ (φ10 : Nat → Nat) (xs10 : Xs) (J7_10 : IM), I8.Le J7_10 → (True) → (ERep J7_10 l ((xs10 5).n 0) ((xs10 5).p 0)) → Fun Tryd.prog 40 #[.agg #[.int .u64 ((b : Nat) : Int), .pointer (some ⟨kk, 0, none⟩)]] J7_10 (fun v J' => ∃ x : UX, v = .agg #[.int .u64 ((x.n 0 : Nat) : Int), .pointer (x.p 0)] ∧ (ERep J' r (x.n 0) (x.p 0)))) (by kernel_rfl) ?_
      intro φ10 xs10 J7_10 leJ
      rintro _ h10_5_0
      have hn0 := ERep.mono leJ hn0
      exact Fun.mono (right_c hn0) (fun v J' _ ⟨y0, y1, hv, g0⟩ => ⟨{ UX.d with n := fun j => y0, p := fun j => y1 }, hv, g0⟩)
    case c10_8 =>
      refine kcast (A := ∀ (φ10 : Nat → Nat) (xs10 : Xs) (J8_10 : IM), I8.Le J8_10 → (True) → (ERep J8_10 l ((xs10 5).n 0) ((xs10 5).p 0)) → (ERep J8_10 r ((xs10 7).n 0) ((xs10 7).p 0)) → Fun Tryd.prog 18 #[.int .u64 ((n + b : Nat) : Int), .agg #[.int .u64 (((xs10 5).n 0 : Nat) : Int), .pointer ((xs10 5).p 0)], .agg #[.int .u64 (((xs10 7).n 0 : Nat) : Int), .pointer ((xs10 7).p 0)]] J8_10 (fun v J' => ∃ x : UX, v = .tuple #[.agg #[.int .u64 ((x.n 0 : Nat) : Int), .pointer (x.p 0)], .int .i64 0] ∧ (ERep J' (E.up n (E.node b l r)) (x.n 0) (x.p 0)))) (by kernel_rfl) ?_
      intro φ10 xs10 J8_10 leJ
      rintro _ h10_5_0 h10_7_0
      exact Fun.mono (nodeUp_c (n := n) (b := b) hnf hd ht h10_5_0 h10_7_0) (fun v J' _ ⟨y0, y1, hv, g0⟩ => ⟨{ UX.d with n := fun j => y0, p := fun j => y1 }, hv, g0⟩)
    case k10 =>
      rintro φ10 xs10 I10 w10 le10 s _ h10_5_0 h10_7_0 h10_8_0
      replace hl := ERep.mono le10 hl
      replace hr := ERep.mono le10 hr
      replace hn0 := ERep.mono le10 hn0
      replace hk := le10 _ _ hk
      refine wp_seq ?_
      refine region_rule ?_
      refine ops_rule (C := []) [((φ1 0), .cells #[.int .u64 ((b : Nat) : Int), .pointer (some ⟨kk, 0, none⟩)] 27), ((φ1 1), .cells #[.int .u64 0, .pointer none] 27), ((φ6 0), .cells #[.int .u64 (((xs10 8).n 0 : Nat) : Int), .pointer ((xs10 8).p 0)] 27)] [] 2 [.o 2, .o 2, .o 1, .o 1] 0 (fun φ11 => [(30, .agg #[.int .u64 (((xs10 8).n 0 : Nat) : Int), .pointer ((xs10 8).p 0)])]) (fun φ11 => [((φ1 0), .cells #[.int .u64 ((b : Nat) : Int), .pointer (some ⟨kk, 0, none⟩)] 27), ((φ1 1), .cells #[.int .u64 (((xs10 8).n 0 : Nat) : Int), .pointer ((xs10 8).p 0)] 27), ((φ6 0), .cells #[.int .u64 (((xs10 8).n 0 : Nat) : Int), .pointer ((xs10 8).p 0)] 27)]) (fun φ11 => [(φ6 0), (φ6 0), (φ1 1), (φ1 1)]) s trivial (fun φ11 => by kernel_rfl) ?_
      intro φ11 w11 s
      refine ops_done (by kernel_rfl) ?_
      refine wp_ret ?_
      refine ret_rule (C := []) [((φ1 0), .cells #[.int .u64 ((b : Nat) : Int), .pointer (some ⟨kk, 0, none⟩)] 27), ((φ1 1), .cells #[.int .u64 (((xs10 8).n 0 : Nat) : Int), .pointer ((xs10 8).p 0)] 27), ((φ6 0), .cells #[.int .u64 (((xs10 8).n 0 : Nat) : Int), .pointer ((xs10 8).p 0)] 27)] [] (.agg #[.int .u64 (((xs10 8).n 0 : Nat) : Int), .pointer ((xs10 8).p 0)]) [.o 1, .o 1] [(φ1 1), (φ1 1)] s trivial (by kernel_rfl) ?_
      exact ⟨_, _, _, rfl, s, ⟨_, _, rfl, h10_8_0⟩⟩

theorem upL_c {I : IM} {e : E} {b0 b : Nat} {p0 p : Option Addr} (h0 : ERep I e b0 p0) (o : e.ok) (h : ERep I e.left b p) : Fun Tryd.prog 36 #[evv b p, .int .u64 ((b0 : Nat) : Int)] I (fun v J => ∃ b' p', v = evv b' p' ∧ ERep J (E.up e.base e.left) b' p') := by
  have hb := h0.base_eq
  subst hb
  obtain ⟨o1, o2, o3⟩ := o
  have a := E.half_top e
  have c := E.half_depth e 5 (by omega)
  rw [E.up_top, E.up_top] at a
  rw [E.up_depth, E.up_depth] at c
  exact upE_c h (E.half_nf o1).1 (by omega) (by omega)

theorem upR_c {I : IM} {e : E} {b0 b : Nat} {p0 p : Option Addr} (h0 : ERep I e b0 p0) (o : e.ok) (h : ERep I e.right b p) : Fun Tryd.prog 36 #[evv b p, .int .u64 ((b0 : Nat) : Int)] I (fun v J => ∃ b' p', v = evv b' p' ∧ ERep J (E.up e.base e.right) b' p') := by
  have hb := h0.base_eq
  subst hb
  obtain ⟨o1, o2, o3⟩ := o
  have a := E.half_top e
  have c := E.half_depth e 5 (by omega)
  rw [E.up_top, E.up_top] at a
  rw [E.up_depth, E.up_depth] at c
  exact upE_c h (E.half_nf o1).2 (by omega) (by omega)

set_option maxHeartbeats 8000000 in
theorem eventHalves_c {I : IM} (hT : Tab I) {la lb : List UInt8} {va vb : Value} (hla : BSl I la va) (hlb : BSl I lb vb) : Fun Tryd.prog 8 #[va, vb] I (fun v J => v = .bool true) := by
  refine enter_rule 97 [(0, va), (1, vb)] Tryd.func8 rfl (by kernel_rfl) ?_
  intro w s
  refine wp_seq ?_
  refine region_rule ?_
  refine ops_rule (C := []) [] [] 1 [] 0 (fun φ1 => [(4, .bool false)]) (fun φ1 => []) (fun φ1 => []) s trivial (fun φ1 => by kernel_rfl) ?_
  intro φ1 w1 s
  refine ops_done (by kernel_rfl) ?_
  refine wp_seq ?_
  refine wp_seq ?_
  refine region_rule ?_
  refine call_rule (some 16) s (awakeE_c hT) (by kernel_rfl) ?_
  intro v2 I2 w2 le2 h2 s
  replace hT := Tab.mono le2 hT
  replace hla := BSl.mono le2 hla
  replace hlb := BSl.mono le2 hlb
  obtain rfl := h2
  refine ops_rule (C := []) [] [] 1 [] 0 (fun φ3 => [(17, .bool false)]) (fun φ3 => []) (fun φ3 => []) s trivial (fun φ3 => by kernel_rfl) ?_
  intro φ3 w3 s
  refine ops_done (by kernel_rfl) ?_
  refine cond_false_rule (b := false) (by kernel_rfl) rfl ?_
  refine wp_skip ?_
  refine wp_seq ?_
  refine region_rule ?_
  refine ops_rule (C := []) [] [] 1 [] 0 (fun φ4 => [(19, va)]) (fun φ4 => []) (fun φ4 => []) s trivial (fun φ4 => by kernel_rfl) ?_
  intro φ4 w4 s
  refine call_rule (some 20) s (madeE_c hla) (by kernel_rfl) ?_
  intro v5 I5 w5 le5 h5 s
  replace hT := Tab.mono le5 hT
  replace hla := BSl.mono le5 hla
  replace hlb := BSl.mono le5 hlb
  obtain ⟨b5, q5, k5, e5, rfl, h5_0, h5_1, h5_2⟩ := h5
  refine ops_rule (C := []) [] [] 6 [.o 0, .o 0] 1 (fun φ6 => [(6, .pointer (some ⟨k5, 0, none⟩)), (5, .pointer (some ⟨(φ6 0), 0, none⟩)), (22, .pointer (some ⟨k5, 0, none⟩)), (21, .agg #[.int .u64 ((b5 : Nat) : Int), .pointer q5]), (18, .tuple #[.agg #[.int .u64 ((b5 : Nat) : Int), .pointer q5], .pointer (some ⟨k5, 0, none⟩)])]) (fun φ6 => [((φ6 0), .cells #[.int .u64 ((b5 : Nat) : Int), .pointer q5] 27)]) (fun φ6 => [(φ6 0), (φ6 0)]) s trivial (fun φ6 => by kernel_rfl) ?_
  intro φ6 w6 s
  refine ops_done (by kernel_rfl) ?_
  refine wp_seq ?_
  refine region_rule ?_
  refine ops_rule (C := []) [((φ6 0), .cells #[.int .u64 ((b5 : Nat) : Int), .pointer q5] 27)] [] 1 [] 0 (fun φ7 => [(24, vb)]) (fun φ7 => [((φ6 0), .cells #[.int .u64 ((b5 : Nat) : Int), .pointer q5] 27)]) (fun φ7 => []) s trivial (fun φ7 => by kernel_rfl) ?_
  intro φ7 w7 s
  refine call_rule (some 25) s (madeE_c hlb) (by kernel_rfl) ?_
  intro v8 I8 w8 le8 h8 s
  replace hT := Tab.mono le8 hT
  replace hla := BSl.mono le8 hla
  replace hlb := BSl.mono le8 hlb
  replace h5_1 := ERep.mono le8 h5_1
  replace h5_2 := RE.mono le8 h5_2
  obtain ⟨b8, q8, k8, e8, rfl, h8_0, h8_1, h8_2⟩ := h8
  refine ops_rule (C := []) [((φ6 0), .cells #[.int .u64 ((b5 : Nat) : Int), .pointer q5] 27)] [] 6 [.o 1, .o 1] 1 (fun φ9 => [(8, .pointer (some ⟨k8, 0, none⟩)), (7, .pointer (some ⟨(φ9 0), 0, none⟩)), (27, .pointer (some ⟨k8, 0, none⟩)), (26, .agg #[.int .u64 ((b8 : Nat) : Int), .pointer q8]), (23, .tuple #[.agg #[.int .u64 ((b8 : Nat) : Int), .pointer q8], .pointer (some ⟨k8, 0, none⟩)])]) (fun φ9 => [((φ6 0), .cells #[.int .u64 ((b5 : Nat) : Int), .pointer q5] 27), ((φ9 0), .cells #[.int .u64 ((b8 : Nat) : Int), .pointer q8] 27)]) (fun φ9 => [(φ9 0), (φ9 0)]) s trivial (fun φ9 => by kernel_rfl) ?_
  intro φ9 w9 s
  refine ops_done (by kernel_rfl) ?_
  refine wp_seq ?_
  refine region_rule ?_
  refine ops_rule (C := []) [((φ6 0), .cells #[.int .u64 ((b5 : Nat) : Int), .pointer q5] 27), ((φ9 0), .cells #[.int .u64 ((b8 : Nat) : Int), .pointer q8] 27)] [] 1 [] 0 (fun φ10 => [(9, .func (.func 36) #[] #[])]) (fun φ10 => [((φ6 0), .cells #[.int .u64 ((b5 : Nat) : Int), .pointer q5] 27), ((φ9 0), .cells #[.int .u64 ((b8 : Nat) : Int), .pointer q8] 27)]) (fun φ10 => []) s trivial (fun φ10 => by kernel_rfl) ?_
  intro φ10 w10 s
  refine ops_done (by kernel_rfl) ?_
  refine wp_seq ?_
  refine draw_rule (C := []) ⟨(fun φ11 xs11 => [.look 0 [] [], .look 0 [.o 0, .o 0] [(φ6 0), (φ6 0)], .call 39 #[.agg #[.int .u64 ((b5 : Nat) : Int), .pointer q5]], .look 0 [.o 0, .o 0] [(φ6 0), (φ6 0)], .call 37 #[.agg #[.int .u64 ((b5 : Nat) : Int), .pointer q5]], .call 36 #[.agg #[.int .u64 (((xs11 2).n 0 : Nat) : Int), .pointer ((xs11 2).p 0)], .int .u64 ((b5 : Nat) : Int)], .look 0 [] [], .look 0 [.o 0, .o 0] [(φ6 0), (φ6 0)], .call 40 #[.agg #[.int .u64 ((b5 : Nat) : Int), .pointer q5]], .look 0 [.o 0, .o 0] [(φ6 0), (φ6 0)], .call 37 #[.agg #[.int .u64 ((b5 : Nat) : Int), .pointer q5]], .call 36 #[.agg #[.int .u64 (((xs11 8).n 0 : Nat) : Int), .pointer ((xs11 8).p 0)], .int .u64 ((b5 : Nat) : Int)], .look 0 [] [], .look 0 [.o 1, .o 1] [(φ9 0), (φ9 0)], .call 39 #[.agg #[.int .u64 ((b8 : Nat) : Int), .pointer q8]], .look 0 [.o 1, .o 1] [(φ9 0), (φ9 0)], .call 37 #[.agg #[.int .u64 ((b8 : Nat) : Int), .pointer q8]], .call 36 #[.agg #[.int .u64 (((xs11 14).n 0 : Nat) : Int), .pointer ((xs11 14).p 0)], .int .u64 ((b8 : Nat) : Int)], .look 0 [] [], .look 0 [.o 1, .o 1] [(φ9 0), (φ9 0)], .call 40 #[.agg #[.int .u64 ((b8 : Nat) : Int), .pointer q8]], .look 0 [.o 1, .o 1] [(φ9 0), (φ9 0)], .call 37 #[.agg #[.int .u64 ((b8 : Nat) : Int), .pointer q8]], .call 36 #[.agg #[.int .u64 (((xs11 20).n 0 : Nat) : Int), .pointer ((xs11 20).p 0)], .int .u64 ((b8 : Nat) : Int)], .new, .new, .new, .new, .store 0 [.o 2, .o 2] [(φ11 24), (φ11 24)], .store 1 [.o 3, .o 3] [(φ11 25), (φ11 25)], .store 2 [.o 4, .o 4] [(φ11 26), (φ11 26)], .store 3 [.o 5, .o 5] [(φ11 27), (φ11 27)]]), (fun φ11 xs11 => [.func (.func 36) #[] #[], .agg #[.int .u64 ((b5 : Nat) : Int), .pointer q5], .agg #[.int .u64 (((xs11 2).n 0 : Nat) : Int), .pointer ((xs11 2).p 0)], .agg #[.int .u64 ((b5 : Nat) : Int), .pointer q5], .int .u64 ((b5 : Nat) : Int), .agg #[.int .u64 (((xs11 5).n 0 : Nat) : Int), .pointer ((xs11 5).p 0)], .func (.func 36) #[] #[], .agg #[.int .u64 ((b5 : Nat) : Int), .pointer q5], .agg #[.int .u64 (((xs11 8).n 0 : Nat) : Int), .pointer ((xs11 8).p 0)], .agg #[.int .u64 ((b5 : Nat) : Int), .pointer q5], .int .u64 ((b5 : Nat) : Int), .agg #[.int .u64 (((xs11 11).n 0 : Nat) : Int), .pointer ((xs11 11).p 0)], .func (.func 36) #[] #[], .agg #[.int .u64 ((b8 : Nat) : Int), .pointer q8], .agg #[.int .u64 (((xs11 14).n 0 : Nat) : Int), .pointer ((xs11 14).p 0)], .agg #[.int .u64 ((b8 : Nat) : Int), .pointer q8], .int .u64 ((b8 : Nat) : Int), .agg #[.int .u64 (((xs11 17).n 0 : Nat) : Int), .pointer ((xs11 17).p 0)], .func (.func 36) #[] #[], .agg #[.int .u64 ((b8 : Nat) : Int), .pointer q8], .agg #[.int .u64 (((xs11 20).n 0 : Nat) : Int), .pointer ((xs11 20).p 0)], .agg #[.int .u64 ((b8 : Nat) : Int), .pointer q8], .int .u64 ((b8 : Nat) : Int), .agg #[.int .u64 (((xs11 23).n 0 : Nat) : Int), .pointer ((xs11 23).p 0)], .pointer (some ⟨(φ11 24), 0, none⟩), .pointer (some ⟨(φ11 25), 0, none⟩), .pointer (some ⟨(φ11 26), 0, none⟩), .pointer (some ⟨(φ11 27), 0, none⟩), undef, undef, undef, undef]), (fun φ11 xs11 => [[((φ6 0), .cells #[.int .u64 ((b5 : Nat) : Int), .pointer q5] 27), ((φ9 0), .cells #[.int .u64 ((b8 : Nat) : Int), .pointer q8] 27)], [((φ6 0), .cells #[.int .u64 ((b5 : Nat) : Int), .pointer q5] 27), ((φ9 0), .cells #[.int .u64 ((b8 : Nat) : Int), .pointer q8] 27)], [((φ6 0), .cells #[.int .u64 ((b5 : Nat) : Int), .pointer q5] 27), ((φ9 0), .cells #[.int .u64 ((b8 : Nat) : Int), .pointer q8] 27)], [((φ6 0), .cells #[.int .u64 ((b5 : Nat) : Int), .pointer q5] 27), ((φ9 0), .cells #[.int .u64 ((b8 : Nat) : Int), .pointer q8] 27)], [((φ6 0), .cells #[.int .u64 ((b5 : Nat) : Int), .pointer q5] 27), ((φ9 0), .cells #[.int .u64 ((b8 : Nat) : Int), .pointer q8] 27)]]), (fun φ11 xs11 => [[default, default, default, default, default, default, default, default, default, default, default, default, default, default, default, default, default, default, default, default, default, default, default, default, .cells #[.int .u64 0, .pointer none] 27, .cells #[.int .u64 0, .pointer none] 27, .cells #[.int .u64 0, .pointer none] 27, .cells #[.int .u64 0, .pointer none] 27, default, default, default, default], [default, default, default, default, default, default, default, default, default, default, default, default, default, default, default, default, default, default, default, default, default, default, default, default, .cells #[.int .u64 (((xs11 5).n 0 : Nat) : Int), .pointer ((xs11 5).p 0)] 27, .cells #[.int .u64 0, .pointer none] 27, .cells #[.int .u64 0, .pointer none] 27, .cells #[.int .u64 0, .pointer none] 27, default, default, default, default], [default, default, default, default, default, default, default, default, default, default, default, default, default, default, default, default, default, default, default, default, default, default, default, default, .cells #[.int .u64 (((xs11 5).n 0 : Nat) : Int), .pointer ((xs11 5).p 0)] 27, .cells #[.int .u64 (((xs11 11).n 0 : Nat) : Int), .pointer ((xs11 11).p 0)] 27, .cells #[.int .u64 0, .pointer none] 27, .cells #[.int .u64 0, .pointer none] 27, default, default, default, default], [default, default, default, default, default, default, default, default, default, default, default, default, default, default, default, default, default, default, default, default, default, default, default, default, .cells #[.int .u64 (((xs11 5).n 0 : Nat) : Int), .pointer ((xs11 5).p 0)] 27, .cells #[.int .u64 (((xs11 11).n 0 : Nat) : Int), .pointer ((xs11 11).p 0)] 27, .cells #[.int .u64 (((xs11 17).n 0 : Nat) : Int), .pointer ((xs11 17).p 0)] 27, .cells #[.int .u64 0, .pointer none] 27, default, default, default, default], [default, default, default, default, default, default, default, default, default, default, default, default, default, default, default, default, default, default, default, default, default, default, default, default, .cells #[.int .u64 (((xs11 5).n 0 : Nat) : Int), .pointer ((xs11 5).p 0)] 27, .cells #[.int .u64 (((xs11 11).n 0 : Nat) : Int), .pointer ((xs11 11).p 0)] 27, .cells #[.int .u64 (((xs11 17).n 0 : Nat) : Int), .pointer ((xs11 17).p 0)] 27, .cells #[.int .u64 (((xs11 23).n 0 : Nat) : Int), .pointer ((xs11 23).p 0)] 27, default, default, default, default]]), [28, 29, 30, 31], [1, 1, 3, 1, 3, 3, 1, 1, 3, 1, 3, 3, 1, 1, 3, 1, 3, 3, 1, 1, 3, 1, 3, 3, 2, 2, 2, 2, 4, 4, 4, 4]⟩ (fun j => ([MP.any, MP.any, ⟨fun x J => ERep J (E.left e5) (x.n 0) (x.p 0), fun le h => ERep.mono le h⟩, MP.any, MP.any, ⟨fun x J => ERep J (E.up (E.base e5) (E.left e5)) (x.n 0) (x.p 0), fun le h => ERep.mono le h⟩, MP.any, MP.any, ⟨fun x J => ERep J (E.right e5) (x.n 0) (x.p 0), fun le h => ERep.mono le h⟩, MP.any, MP.any, ⟨fun x J => ERep J (E.up (E.base e5) (E.right e5)) (x.n 0) (x.p 0), fun le h => ERep.mono le h⟩, MP.any, MP.any, ⟨fun x J => ERep J (E.left e8) (x.n 0) (x.p 0), fun le h => ERep.mono le h⟩, MP.any, MP.any, ⟨fun x J => ERep J (E.up (E.base e8) (E.left e8)) (x.n 0) (x.p 0), fun le h => ERep.mono le h⟩, MP.any, MP.any, ⟨fun x J => ERep J (E.right e8) (x.n 0) (x.p 0), fun le h => ERep.mono le h⟩, MP.any, MP.any, ⟨fun x J => ERep J (E.up (E.base e8) (E.right e8)) (x.n 0) (x.p 0), fun le h => ERep.mono le h⟩, MP.any, MP.any, MP.any, MP.any, MP.any, MP.any, MP.any, MP.any] : List MP).getD j MP.any) [2, 4, 5, 8, 10, 11, 14, 16, 17, 20, 22, 23] [] [] (fun φ11 xs11 => [[none, none, none, none, none, none, none, none, none, none, none, none, none, none, none, none, none, none, none, none, none, none, none, none, none, none, none, none, none, none, none, none], [none, none, none, none, none, none, none, none, none, none, none, none, none, none, none, none, none, none, none, none, none, none, none, none, none, none, none, none, none, none, none, none], [none, none, none, none, none, none, none, none, none, none, none, none, none, none, none, none, none, none, none, none, none, none, none, none, none, none, none, none, none, none, none, none], [none, none, none, none, none, none, none, none, none, none, none, none, none, none, none, none, none, none, none, none, none, none, none, none, none, none, none, none, none, none, none, none]]) (fun φ11 xs11 => [(28, .func (.func 36) #[] #[]), (29, .agg #[.int .u64 ((b5 : Nat) : Int), .pointer q5]), (30, .agg #[.int .u64 (((xs11 2).n 0 : Nat) : Int), .pointer ((xs11 2).p 0)]), (31, .agg #[.int .u64 ((b5 : Nat) : Int), .pointer q5]), (32, .int .u64 ((b5 : Nat) : Int)), (33, .agg #[.int .u64 (((xs11 5).n 0 : Nat) : Int), .pointer ((xs11 5).p 0)]), (34, .func (.func 36) #[] #[]), (35, .agg #[.int .u64 ((b5 : Nat) : Int), .pointer q5]), (36, .agg #[.int .u64 (((xs11 8).n 0 : Nat) : Int), .pointer ((xs11 8).p 0)]), (37, .agg #[.int .u64 ((b5 : Nat) : Int), .pointer q5]), (38, .int .u64 ((b5 : Nat) : Int)), (39, .agg #[.int .u64 (((xs11 11).n 0 : Nat) : Int), .pointer ((xs11 11).p 0)]), (40, .func (.func 36) #[] #[]), (41, .agg #[.int .u64 ((b8 : Nat) : Int), .pointer q8]), (42, .agg #[.int .u64 (((xs11 14).n 0 : Nat) : Int), .pointer ((xs11 14).p 0)]), (43, .agg #[.int .u64 ((b8 : Nat) : Int), .pointer q8]), (44, .int .u64 ((b8 : Nat) : Int)), (45, .agg #[.int .u64 (((xs11 17).n 0 : Nat) : Int), .pointer ((xs11 17).p 0)]), (46, .func (.func 36) #[] #[]), (47, .agg #[.int .u64 ((b8 : Nat) : Int), .pointer q8]), (48, .agg #[.int .u64 (((xs11 20).n 0 : Nat) : Int), .pointer ((xs11 20).p 0)]), (49, .agg #[.int .u64 ((b8 : Nat) : Int), .pointer q8]), (50, .int .u64 ((b8 : Nat) : Int)), (51, .agg #[.int .u64 (((xs11 23).n 0 : Nat) : Int), .pointer ((xs11 23).p 0)]), (10, .pointer (some ⟨(φ11 24), 0, none⟩)), (11, .pointer (some ⟨(φ11 25), 0, none⟩)), (12, .pointer (some ⟨(φ11 26), 0, none⟩)), (13, .pointer (some ⟨(φ11 27), 0, none⟩))]) (fun φ11 xs11 => [((φ6 0), .cells #[.int .u64 ((b5 : Nat) : Int), .pointer q5] 27), ((φ9 0), .cells #[.int .u64 ((b8 : Nat) : Int), .pointer q8] 27), ((φ11 24), .cells #[.int .u64 (((xs11 5).n 0 : Nat) : Int), .pointer ((xs11 5).p 0)] 27), ((φ11 25), .cells #[.int .u64 (((xs11 11).n 0 : Nat) : Int), .pointer ((xs11 11).p 0)] 27), ((φ11 26), .cells #[.int .u64 (((xs11 17).n 0 : Nat) : Int), .pointer ((xs11 17).p 0)] 27), ((φ11 27), .cells #[.int .u64 (((xs11 23).n 0 : Nat) : Int), .pointer ((xs11 23).p 0)] 27)]) s trivial (by kernel_rfl) (by kernel_rfl) (fun _ _ => by kernel_rfl) (fun _ _ => by kernel_rfl) ⟨fun _ _ => by kernel_rfl, fun _ _ => by kernel_rfl, fun _ _ => by kernel_rfl, fun _ _ => by kernel_rfl⟩ (fun _ _ _ => by kernel_rfl) (fun _ _ => by kernel_rfl) (fun _ _ => by kernel_rfl) (fun _ _ => by kernel_rfl) (fun _ _ => by kernel_rfl) (fun _ _ => by kernel_rfl) trivial trivial (by kernel_rfl) ⟨?c11_2, ?c11_4, ?c11_5, ?c11_8, ?c11_10, ?c11_11, ?c11_14, ?c11_16, ?c11_17, ?c11_20, ?c11_22, ?c11_23, trivial⟩ ?k11
  case c11_2 =>
    refine kcast (A := ∀ (φ11 : Nat → Nat) (xs11 : Xs) (J2_11 : IM), I8.Le J2_11 → Fun Tryd.prog 39 #[.agg #[.int .u64 ((b5 : Nat) : Int), .pointer q5]] J2_11 (fun v J' => ∃ x : UX, v = .agg #[.int .u64 ((x.n 0 : Nat) : Int), .pointer (x.p 0)] ∧ (ERep J' (E.left e5) (x.n 0) (x.p 0)))) (by kernel_rfl) ?_
    intro φ11 xs11 J2_11 leJ
    have h5_1 := ERep.mono leJ h5_1
    exact Fun.mono (left_c h5_1) (fun v J' _ ⟨y0, y1, hv, g0⟩ => ⟨{ UX.d with n := fun j => y0, p := fun j => y1 }, hv, g0⟩)
  case c11_4 =>
    refine kcast (A := ∀ (φ11 : Nat → Nat) (xs11 : Xs) (J4_11 : IM), I8.Le J4_11 → (ERep J4_11 (E.left e5) ((xs11 2).n 0) ((xs11 2).p 0)) → Fun Tryd.prog 37 #[.agg #[.int .u64 ((b5 : Nat) : Int), .pointer q5]] J4_11 (fun v J' => ∃ x : UX, v = .int .u64 ((b5 : Nat) : Int) ∧ (True))) (by kernel_rfl) ?_
    intro φ11 xs11 J4_11 leJ
    rintro h11_2_0
    have h5_1 := ERep.mono leJ h5_1
    exact Fun.mono (base_c h5_1) (fun v J' _ h => ⟨UX.d, h, trivial⟩)
  case c11_5 =>
    refine kcast (A := ∀ (φ11 : Nat → Nat) (xs11 : Xs) (J5_11 : IM), I8.Le J5_11 → (ERep J5_11 (E.left e5) ((xs11 2).n 0) ((xs11 2).p 0)) → (True) → Fun Tryd.prog 36 #[.agg #[.int .u64 (((xs11 2).n 0 : Nat) : Int), .pointer ((xs11 2).p 0)], .int .u64 ((b5 : Nat) : Int)] J5_11 (fun v J' => ∃ x : UX, v = .agg #[.int .u64 ((x.n 0 : Nat) : Int), .pointer (x.p 0)] ∧ (ERep J' (E.up (E.base e5) (E.left e5)) (x.n 0) (x.p 0)))) (by kernel_rfl) ?_
    intro φ11 xs11 J5_11 leJ
    rintro h11_2_0 _
    have h5_1 := ERep.mono leJ h5_1
    exact Fun.mono (upL_c h5_1 (ok_of h5_0) h11_2_0) (fun v J' _ ⟨y0, y1, hv, g0⟩ => ⟨{ UX.d with n := fun j => y0, p := fun j => y1 }, hv, g0⟩)
  case c11_8 =>
    refine kcast (A := ∀ (φ11 : Nat → Nat) (xs11 : Xs) (J8_11 : IM), I8.Le J8_11 → (ERep J8_11 (E.left e5) ((xs11 2).n 0) ((xs11 2).p 0)) → (True) → (ERep J8_11 (E.up (E.base e5) (E.left e5)) ((xs11 5).n 0) ((xs11 5).p 0)) → Fun Tryd.prog 40 #[.agg #[.int .u64 ((b5 : Nat) : Int), .pointer q5]] J8_11 (fun v J' => ∃ x : UX, v = .agg #[.int .u64 ((x.n 0 : Nat) : Int), .pointer (x.p 0)] ∧ (ERep J' (E.right e5) (x.n 0) (x.p 0)))) (by kernel_rfl) ?_
    intro φ11 xs11 J8_11 leJ
    rintro h11_2_0 _ h11_5_0
    have h5_1 := ERep.mono leJ h5_1
    exact Fun.mono (right_c h5_1) (fun v J' _ ⟨y0, y1, hv, g0⟩ => ⟨{ UX.d with n := fun j => y0, p := fun j => y1 }, hv, g0⟩)
  case c11_10 =>
    refine kcast (A := ∀ (φ11 : Nat → Nat) (xs11 : Xs) (J10_11 : IM), I8.Le J10_11 → (ERep J10_11 (E.left e5) ((xs11 2).n 0) ((xs11 2).p 0)) → (True) → (ERep J10_11 (E.up (E.base e5) (E.left e5)) ((xs11 5).n 0) ((xs11 5).p 0)) → (ERep J10_11 (E.right e5) ((xs11 8).n 0) ((xs11 8).p 0)) → Fun Tryd.prog 37 #[.agg #[.int .u64 ((b5 : Nat) : Int), .pointer q5]] J10_11 (fun v J' => ∃ x : UX, v = .int .u64 ((b5 : Nat) : Int) ∧ (True))) (by kernel_rfl) ?_
    intro φ11 xs11 J10_11 leJ
    rintro h11_2_0 _ h11_5_0 h11_8_0
    have h5_1 := ERep.mono leJ h5_1
    exact Fun.mono (base_c h5_1) (fun v J' _ h => ⟨UX.d, h, trivial⟩)
  case c11_11 =>
    refine kcast (A := ∀ (φ11 : Nat → Nat) (xs11 : Xs) (J11_11 : IM), I8.Le J11_11 → (ERep J11_11 (E.left e5) ((xs11 2).n 0) ((xs11 2).p 0)) → (True) → (ERep J11_11 (E.up (E.base e5) (E.left e5)) ((xs11 5).n 0) ((xs11 5).p 0)) → (ERep J11_11 (E.right e5) ((xs11 8).n 0) ((xs11 8).p 0)) → (True) → Fun Tryd.prog 36 #[.agg #[.int .u64 (((xs11 8).n 0 : Nat) : Int), .pointer ((xs11 8).p 0)], .int .u64 ((b5 : Nat) : Int)] J11_11 (fun v J' => ∃ x : UX, v = .agg #[.int .u64 ((x.n 0 : Nat) : Int), .pointer (x.p 0)] ∧ (ERep J' (E.up (E.base e5) (E.right e5)) (x.n 0) (x.p 0)))) (by kernel_rfl) ?_
    intro φ11 xs11 J11_11 leJ
    rintro h11_2_0 _ h11_5_0 h11_8_0 _
    have h5_1 := ERep.mono leJ h5_1
    exact Fun.mono (upR_c h5_1 (ok_of h5_0) h11_8_0) (fun v J' _ ⟨y0, y1, hv, g0⟩ => ⟨{ UX.d with n := fun j => y0, p := fun j => y1 }, hv, g0⟩)
  case c11_14 =>
    refine kcast (A := ∀ (φ11 : Nat → Nat) (xs11 : Xs) (J14_11 : IM), I8.Le J14_11 → (ERep J14_11 (E.left e5) ((xs11 2).n 0) ((xs11 2).p 0)) → (True) → (ERep J14_11 (E.up (E.base e5) (E.left e5)) ((xs11 5).n 0) ((xs11 5).p 0)) → (ERep J14_11 (E.right e5) ((xs11 8).n 0) ((xs11 8).p 0)) → (True) → (ERep J14_11 (E.up (E.base e5) (E.right e5)) ((xs11 11).n 0) ((xs11 11).p 0)) → Fun Tryd.prog 39 #[.agg #[.int .u64 ((b8 : Nat) : Int), .pointer q8]] J14_11 (fun v J' => ∃ x : UX, v = .agg #[.int .u64 ((x.n 0 : Nat) : Int), .pointer (x.p 0)] ∧ (ERep J' (E.left e8) (x.n 0) (x.p 0)))) (by kernel_rfl) ?_
    intro φ11 xs11 J14_11 leJ
    rintro h11_2_0 _ h11_5_0 h11_8_0 _ h11_11_0
    have h8_1 := ERep.mono leJ h8_1
    exact Fun.mono (left_c h8_1) (fun v J' _ ⟨y0, y1, hv, g0⟩ => ⟨{ UX.d with n := fun j => y0, p := fun j => y1 }, hv, g0⟩)
  case c11_16 =>
    refine kcast (A := ∀ (φ11 : Nat → Nat) (xs11 : Xs) (J16_11 : IM), I8.Le J16_11 → (ERep J16_11 (E.left e5) ((xs11 2).n 0) ((xs11 2).p 0)) → (True) → (ERep J16_11 (E.up (E.base e5) (E.left e5)) ((xs11 5).n 0) ((xs11 5).p 0)) → (ERep J16_11 (E.right e5) ((xs11 8).n 0) ((xs11 8).p 0)) → (True) → (ERep J16_11 (E.up (E.base e5) (E.right e5)) ((xs11 11).n 0) ((xs11 11).p 0)) → (ERep J16_11 (E.left e8) ((xs11 14).n 0) ((xs11 14).p 0)) → Fun Tryd.prog 37 #[.agg #[.int .u64 ((b8 : Nat) : Int), .pointer q8]] J16_11 (fun v J' => ∃ x : UX, v = .int .u64 ((b8 : Nat) : Int) ∧ (True))) (by kernel_rfl) ?_
    intro φ11 xs11 J16_11 leJ
    rintro h11_2_0 _ h11_5_0 h11_8_0 _ h11_11_0 h11_14_0
    have h8_1 := ERep.mono leJ h8_1
    exact Fun.mono (base_c h8_1) (fun v J' _ h => ⟨UX.d, h, trivial⟩)
  case c11_17 =>
    refine kcast (A := ∀ (φ11 : Nat → Nat) (xs11 : Xs) (J17_11 : IM), I8.Le J17_11 → (ERep J17_11 (E.left e5) ((xs11 2).n 0) ((xs11 2).p 0)) → (True) → (ERep J17_11 (E.up (E.base e5) (E.left e5)) ((xs11 5).n 0) ((xs11 5).p 0)) → (ERep J17_11 (E.right e5) ((xs11 8).n 0) ((xs11 8).p 0)) → (True) → (ERep J17_11 (E.up (E.base e5) (E.right e5)) ((xs11 11).n 0) ((xs11 11).p 0)) → (ERep J17_11 (E.left e8) ((xs11 14).n 0) ((xs11 14).p 0)) → (True) → Fun Tryd.prog 36 #[.agg #[.int .u64 (((xs11 14).n 0 : Nat) : Int), .pointer ((xs11 14).p 0)], .int .u64 ((b8 : Nat) : Int)] J17_11 (fun v J' => ∃ x : UX, v = .agg #[.int .u64 ((x.n 0 : Nat) : Int), .pointer (x.p 0)] ∧ (ERep J' (E.up (E.base e8) (E.left e8)) (x.n 0) (x.p 0)))) (by kernel_rfl) ?_
    intro φ11 xs11 J17_11 leJ
    rintro h11_2_0 _ h11_5_0 h11_8_0 _ h11_11_0 h11_14_0 _
    have h8_1 := ERep.mono leJ h8_1
    exact Fun.mono (upL_c h8_1 (ok_of h8_0) h11_14_0) (fun v J' _ ⟨y0, y1, hv, g0⟩ => ⟨{ UX.d with n := fun j => y0, p := fun j => y1 }, hv, g0⟩)
  case c11_20 =>
    refine kcast (A := ∀ (φ11 : Nat → Nat) (xs11 : Xs) (J20_11 : IM), I8.Le J20_11 → (ERep J20_11 (E.left e5) ((xs11 2).n 0) ((xs11 2).p 0)) → (True) → (ERep J20_11 (E.up (E.base e5) (E.left e5)) ((xs11 5).n 0) ((xs11 5).p 0)) → (ERep J20_11 (E.right e5) ((xs11 8).n 0) ((xs11 8).p 0)) → (True) → (ERep J20_11 (E.up (E.base e5) (E.right e5)) ((xs11 11).n 0) ((xs11 11).p 0)) → (ERep J20_11 (E.left e8) ((xs11 14).n 0) ((xs11 14).p 0)) → (True) → (ERep J20_11 (E.up (E.base e8) (E.left e8)) ((xs11 17).n 0) ((xs11 17).p 0)) → Fun Tryd.prog 40 #[.agg #[.int .u64 ((b8 : Nat) : Int), .pointer q8]] J20_11 (fun v J' => ∃ x : UX, v = .agg #[.int .u64 ((x.n 0 : Nat) : Int), .pointer (x.p 0)] ∧ (ERep J' (E.right e8) (x.n 0) (x.p 0)))) (by kernel_rfl) ?_
    intro φ11 xs11 J20_11 leJ
    rintro h11_2_0 _ h11_5_0 h11_8_0 _ h11_11_0 h11_14_0 _ h11_17_0
    have h8_1 := ERep.mono leJ h8_1
    exact Fun.mono (right_c h8_1) (fun v J' _ ⟨y0, y1, hv, g0⟩ => ⟨{ UX.d with n := fun j => y0, p := fun j => y1 }, hv, g0⟩)
  case c11_22 =>
    refine kcast (A := ∀ (φ11 : Nat → Nat) (xs11 : Xs) (J22_11 : IM), I8.Le J22_11 → (ERep J22_11 (E.left e5) ((xs11 2).n 0) ((xs11 2).p 0)) → (True) → (ERep J22_11 (E.up (E.base e5) (E.left e5)) ((xs11 5).n 0) ((xs11 5).p 0)) → (ERep J22_11 (E.right e5) ((xs11 8).n 0) ((xs11 8).p 0)) → (True) → (ERep J22_11 (E.up (E.base e5) (E.right e5)) ((xs11 11).n 0) ((xs11 11).p 0)) → (ERep J22_11 (E.left e8) ((xs11 14).n 0) ((xs11 14).p 0)) → (True) → (ERep J22_11 (E.up (E.base e8) (E.left e8)) ((xs11 17).n 0) ((xs11 17).p 0)) → (ERep J22_11 (E.right e8) ((xs11 20).n 0) ((xs11 20).p 0)) → Fun Tryd.prog 37 #[.agg #[.int .u64 ((b8 : Nat) : Int), .pointer q8]] J22_11 (fun v J' => ∃ x : UX, v = .int .u64 ((b8 : Nat) : Int) ∧ (True))) (by kernel_rfl) ?_
    intro φ11 xs11 J22_11 leJ
    rintro h11_2_0 _ h11_5_0 h11_8_0 _ h11_11_0 h11_14_0 _ h11_17_0 h11_20_0
    have h8_1 := ERep.mono leJ h8_1
    exact Fun.mono (base_c h8_1) (fun v J' _ h => ⟨UX.d, h, trivial⟩)
  case c11_23 =>
    refine kcast (A := ∀ (φ11 : Nat → Nat) (xs11 : Xs) (J23_11 : IM), I8.Le J23_11 → (ERep J23_11 (E.left e5) ((xs11 2).n 0) ((xs11 2).p 0)) → (True) → (ERep J23_11 (E.up (E.base e5) (E.left e5)) ((xs11 5).n 0) ((xs11 5).p 0)) → (ERep J23_11 (E.right e5) ((xs11 8).n 0) ((xs11 8).p 0)) → (True) → (ERep J23_11 (E.up (E.base e5) (E.right e5)) ((xs11 11).n 0) ((xs11 11).p 0)) → (ERep J23_11 (E.left e8) ((xs11 14).n 0) ((xs11 14).p 0)) → (True) → (ERep J23_11 (E.up (E.base e8) (E.left e8)) ((xs11 17).n 0) ((xs11 17).p 0)) → (ERep J23_11 (E.right e8) ((xs11 20).n 0) ((xs11 20).p 0)) → (True) → Fun Tryd.prog 36 #[.agg #[.int .u64 (((xs11 20).n 0 : Nat) : Int), .pointer ((xs11 20).p 0)], .int .u64 ((b8 : Nat) : Int)] J23_11 (fun v J' => ∃ x : UX, v = .agg #[.int .u64 ((x.n 0 : Nat) : Int), .pointer (x.p 0)] ∧ (ERep J' (E.up (E.base e8) (E.right e8)) (x.n 0) (x.p 0)))) (by kernel_rfl) ?_
    intro φ11 xs11 J23_11 leJ
    rintro h11_2_0 _ h11_5_0 h11_8_0 _ h11_11_0 h11_14_0 _ h11_17_0 h11_20_0 _
    have h8_1 := ERep.mono leJ h8_1
    exact Fun.mono (upR_c h8_1 (ok_of h8_0) h11_20_0) (fun v J' _ ⟨y0, y1, hv, g0⟩ => ⟨{ UX.d with n := fun j => y0, p := fun j => y1 }, hv, g0⟩)
  case k11 =>
    rintro φ11 xs11 I11 w11 le11 s h11_2_0 _ h11_5_0 h11_8_0 _ h11_11_0 h11_14_0 _ h11_17_0 h11_20_0 _ h11_23_0
    replace hT := Tab.mono le11 hT
    replace hla := BSl.mono le11 hla
    replace hlb := BSl.mono le11 hlb
    replace h5_1 := ERep.mono le11 h5_1
    replace h5_2 := RE.mono le11 h5_2
    replace h8_1 := ERep.mono le11 h8_1
    replace h8_2 := RE.mono le11 h8_2
    refine wp_seq ?_
    refine draw_rule (C := []) ⟨(fun φ12 xs12 => [.look 0 [.o 2, .o 2] [(φ11 24), (φ11 24)], .look 0 [.o 4, .o 4] [(φ11 26), (φ11 26)], .call 28 #[.agg #[.int .u64 (((xs11 5).n 0 : Nat) : Int), .pointer ((xs11 5).p 0)], .agg #[.int .u64 (((xs11 17).n 0 : Nat) : Int), .pointer ((xs11 17).p 0)]], .look 0 [.o 3, .o 3] [(φ11 25), (φ11 25)], .look 0 [.o 5, .o 5] [(φ11 27), (φ11 27)], .call 28 #[.agg #[.int .u64 (((xs11 11).n 0 : Nat) : Int), .pointer ((xs11 11).p 0)], .agg #[.int .u64 (((xs11 23).n 0 : Nat) : Int), .pointer ((xs11 23).p 0)]], .call 18 #[.int .u64 0, .agg #[.int .u64 (((xs12 2).n 0 : Nat) : Int), .pointer ((xs12 2).p 0)], .agg #[.int .u64 (((xs12 5).n 0 : Nat) : Int), .pointer ((xs12 5).p 0)]], .look 0 [] [], .look 0 [] [], .look 0 [] [], .new, .store 0 [.o 6, .o 6] [(φ12 10), (φ12 10)], .look 1 [] []]), (fun φ12 xs12 => [.agg #[.int .u64 (((xs11 5).n 0 : Nat) : Int), .pointer ((xs11 5).p 0)], .agg #[.int .u64 (((xs11 17).n 0 : Nat) : Int), .pointer ((xs11 17).p 0)], .agg #[.int .u64 (((xs12 2).n 0 : Nat) : Int), .pointer ((xs12 2).p 0)], .agg #[.int .u64 (((xs11 11).n 0 : Nat) : Int), .pointer ((xs11 11).p 0)], .agg #[.int .u64 (((xs11 23).n 0 : Nat) : Int), .pointer ((xs11 23).p 0)], .agg #[.int .u64 (((xs12 5).n 0 : Nat) : Int), .pointer ((xs12 5).p 0)], .tuple #[.agg #[.int .u64 (((xs12 6).n 0 : Nat) : Int), .pointer ((xs12 6).p 0)], .int .i64 0], .tuple #[.agg #[.int .u64 (((xs12 6).n 0 : Nat) : Int), .pointer ((xs12 6).p 0)], .int .i64 0], .agg #[.int .u64 (((xs12 6).n 0 : Nat) : Int), .pointer ((xs12 6).p 0)], .int .i64 0, .pointer (some ⟨(φ12 10), 0, none⟩), undef, .int .i64 0]), (fun φ12 xs12 => [[((φ6 0), .cells #[.int .u64 ((b5 : Nat) : Int), .pointer q5] 27), ((φ9 0), .cells #[.int .u64 ((b8 : Nat) : Int), .pointer q8] 27), ((φ11 24), .cells #[.int .u64 (((xs11 5).n 0 : Nat) : Int), .pointer ((xs11 5).p 0)] 27), ((φ11 25), .cells #[.int .u64 (((xs11 11).n 0 : Nat) : Int), .pointer ((xs11 11).p 0)] 27), ((φ11 26), .cells #[.int .u64 (((xs11 17).n 0 : Nat) : Int), .pointer ((xs11 17).p 0)] 27), ((φ11 27), .cells #[.int .u64 (((xs11 23).n 0 : Nat) : Int), .pointer ((xs11 23).p 0)] 27)], [((φ6 0), .cells #[.int .u64 ((b5 : Nat) : Int), .pointer q5] 27), ((φ9 0), .cells #[.int .u64 ((b8 : Nat) : Int), .pointer q8] 27), ((φ11 24), .cells #[.int .u64 (((xs11 5).n 0 : Nat) : Int), .pointer ((xs11 5).p 0)] 27), ((φ11 25), .cells #[.int .u64 (((xs11 11).n 0 : Nat) : Int), .pointer ((xs11 11).p 0)] 27), ((φ11 26), .cells #[.int .u64 (((xs11 17).n 0 : Nat) : Int), .pointer ((xs11 17).p 0)] 27), ((φ11 27), .cells #[.int .u64 (((xs11 23).n 0 : Nat) : Int), .pointer ((xs11 23).p 0)] 27)]]), (fun φ12 xs12 => [[default, default, default, default, default, default, default, default, default, default, .cells #[.int .u64 0, .pointer none] 27, default, default], [default, default, default, default, default, default, default, default, default, default, .cells #[.int .u64 (((xs12 6).n 0 : Nat) : Int), .pointer ((xs12 6).p 0)] 27, default, default]]), [11], [1, 1, 3, 1, 1, 3, 3, 1, 1, 1, 2, 4, 1]⟩ (fun j => ([MP.any, MP.any, ⟨fun x J => ERep J (joinF 64 (E.up (E.base e5) (E.left e5)) (E.up (E.base e8) (E.left e8))) (x.n 0) (x.p 0), fun le h => ERep.mono le h⟩, MP.any, MP.any, ⟨fun x J => ERep J (joinF 64 (E.up (E.base e5) (E.right e5)) (E.up (E.base e8) (E.right e8))) (x.n 0) (x.p 0), fun le h => ERep.mono le h⟩, ⟨fun x J => ERep J (E.mk 0 (joinF 64 (E.up (E.base e5) (E.left e5)) (E.up (E.base e8) (E.left e8))) (joinF 64 (E.up (E.base e5) (E.right e5)) (E.up (E.base e8) (E.right e8)))) (x.n 0) (x.p 0), fun le h => ERep.mono le h⟩, MP.any, MP.any, MP.any, MP.any, MP.any, MP.any] : List MP).getD j MP.any) [2, 5, 6] [] [] (fun φ12 xs12 => [[none, none, none, none, none, none, none, none, none, none, none, none, none]]) (fun φ12 xs12 => [(53, .agg #[.int .u64 (((xs11 5).n 0 : Nat) : Int), .pointer ((xs11 5).p 0)]), (54, .agg #[.int .u64 (((xs11 17).n 0 : Nat) : Int), .pointer ((xs11 17).p 0)]), (55, .agg #[.int .u64 (((xs12 2).n 0 : Nat) : Int), .pointer ((xs12 2).p 0)]), (56, .agg #[.int .u64 (((xs11 11).n 0 : Nat) : Int), .pointer ((xs11 11).p 0)]), (57, .agg #[.int .u64 (((xs11 23).n 0 : Nat) : Int), .pointer ((xs11 23).p 0)]), (58, .agg #[.int .u64 (((xs12 5).n 0 : Nat) : Int), .pointer ((xs12 5).p 0)]), (59, .tuple #[.agg #[.int .u64 (((xs12 6).n 0 : Nat) : Int), .pointer ((xs12 6).p 0)], .int .i64 0]), (52, .tuple #[.agg #[.int .u64 (((xs12 6).n 0 : Nat) : Int), .pointer ((xs12 6).p 0)], .int .i64 0]), (60, .agg #[.int .u64 (((xs12 6).n 0 : Nat) : Int), .pointer ((xs12 6).p 0)]), (61, .int .i64 0), (14, .pointer (some ⟨(φ12 10), 0, none⟩)), (15, .int .i64 0)]) (fun φ12 xs12 => [((φ6 0), .cells #[.int .u64 ((b5 : Nat) : Int), .pointer q5] 27), ((φ9 0), .cells #[.int .u64 ((b8 : Nat) : Int), .pointer q8] 27), ((φ11 24), .cells #[.int .u64 (((xs11 5).n 0 : Nat) : Int), .pointer ((xs11 5).p 0)] 27), ((φ11 25), .cells #[.int .u64 (((xs11 11).n 0 : Nat) : Int), .pointer ((xs11 11).p 0)] 27), ((φ11 26), .cells #[.int .u64 (((xs11 17).n 0 : Nat) : Int), .pointer ((xs11 17).p 0)] 27), ((φ11 27), .cells #[.int .u64 (((xs11 23).n 0 : Nat) : Int), .pointer ((xs11 23).p 0)] 27), ((φ12 10), .cells #[.int .u64 (((xs12 6).n 0 : Nat) : Int), .pointer ((xs12 6).p 0)] 27)]) s trivial (by kernel_rfl) (by kernel_rfl) (fun _ _ => by kernel_rfl) (fun _ _ => by kernel_rfl) ⟨fun _ _ => by kernel_rfl, fun _ _ => by kernel_rfl, fun _ _ => by kernel_rfl, fun _ _ => by kernel_rfl⟩ (fun _ _ _ => by kernel_rfl) (fun _ _ => by kernel_rfl) (fun _ _ => by kernel_rfl) (fun _ _ => by kernel_rfl) (fun _ _ => by kernel_rfl) (fun _ _ => by kernel_rfl) trivial trivial (by kernel_rfl) ⟨?c12_2, ?c12_5, ?c12_6, trivial⟩ ?k12
    case c12_2 =>
      refine kcast (A := ∀ (φ12 : Nat → Nat) (xs12 : Xs) (J2_12 : IM), I11.Le J2_12 → Fun Tryd.prog 28 #[.agg #[.int .u64 (((xs11 5).n 0 : Nat) : Int), .pointer ((xs11 5).p 0)], .agg #[.int .u64 (((xs11 17).n 0 : Nat) : Int), .pointer ((xs11 17).p 0)]] J2_12 (fun v J' => ∃ x : UX, v = .agg #[.int .u64 ((x.n 0 : Nat) : Int), .pointer (x.p 0)] ∧ (ERep J' (joinF 64 (E.up (E.base e5) (E.left e5)) (E.up (E.base e8) (E.left e8))) (x.n 0) (x.p 0)))) (by kernel_rfl) ?_
      intro φ12 xs12 J2_12 leJ
      have h11_5_0 := ERep.mono leJ h11_5_0
      have h11_17_0 := ERep.mono leJ h11_17_0
      exact Fun.mono (joinOE_c h11_5_0 h11_17_0 (ok_half (ok_of h5_0)).1 (ok_half (ok_of h8_0)).1) (fun v J' _ ⟨y0, y1, hv, g0⟩ => ⟨{ UX.d with n := fun j => y0, p := fun j => y1 }, hv, g0⟩)
    case c12_5 =>
      refine kcast (A := ∀ (φ12 : Nat → Nat) (xs12 : Xs) (J5_12 : IM), I11.Le J5_12 → (ERep J5_12 (joinF 64 (E.up (E.base e5) (E.left e5)) (E.up (E.base e8) (E.left e8))) ((xs12 2).n 0) ((xs12 2).p 0)) → Fun Tryd.prog 28 #[.agg #[.int .u64 (((xs11 11).n 0 : Nat) : Int), .pointer ((xs11 11).p 0)], .agg #[.int .u64 (((xs11 23).n 0 : Nat) : Int), .pointer ((xs11 23).p 0)]] J5_12 (fun v J' => ∃ x : UX, v = .agg #[.int .u64 ((x.n 0 : Nat) : Int), .pointer (x.p 0)] ∧ (ERep J' (joinF 64 (E.up (E.base e5) (E.right e5)) (E.up (E.base e8) (E.right e8))) (x.n 0) (x.p 0)))) (by kernel_rfl) ?_
      intro φ12 xs12 J5_12 leJ
      rintro h12_2_0
      have h11_11_0 := ERep.mono leJ h11_11_0
      have h11_23_0 := ERep.mono leJ h11_23_0
      exact Fun.mono (joinOE_c h11_11_0 h11_23_0 (ok_half (ok_of h5_0)).2 (ok_half (ok_of h8_0)).2) (fun v J' _ ⟨y0, y1, hv, g0⟩ => ⟨{ UX.d with n := fun j => y0, p := fun j => y1 }, hv, g0⟩)
    case c12_6 =>
      refine kcast (A := ∀ (φ12 : Nat → Nat) (xs12 : Xs) (J6_12 : IM), I11.Le J6_12 → (ERep J6_12 (joinF 64 (E.up (E.base e5) (E.left e5)) (E.up (E.base e8) (E.left e8))) ((xs12 2).n 0) ((xs12 2).p 0)) → (ERep J6_12 (joinF 64 (E.up (E.base e5) (E.right e5)) (E.up (E.base e8) (E.right e8))) ((xs12 5).n 0) ((xs12 5).p 0)) → Fun Tryd.prog 18 #[.int .u64 0, .agg #[.int .u64 (((xs12 2).n 0 : Nat) : Int), .pointer ((xs12 2).p 0)], .agg #[.int .u64 (((xs12 5).n 0 : Nat) : Int), .pointer ((xs12 5).p 0)]] J6_12 (fun v J' => ∃ x : UX, v = .tuple #[.agg #[.int .u64 ((x.n 0 : Nat) : Int), .pointer (x.p 0)], .int .i64 0] ∧ (ERep J' (E.mk 0 (joinF 64 (E.up (E.base e5) (E.left e5)) (E.up (E.base e8) (E.left e8))) (joinF 64 (E.up (E.base e5) (E.right e5)) (E.up (E.base e8) (E.right e8)))) (x.n 0) (x.p 0)))) (by kernel_rfl) ?_
      intro φ12 xs12 J6_12 leJ
      rintro h12_2_0 h12_5_0
      exact Fun.mono (nodeH_c h12_2_0 h12_5_0 (ok_join (ok_half (ok_of h5_0)).1 (ok_half (ok_of h8_0)).1).1 (ok_join (ok_half (ok_of h5_0)).2 (ok_half (ok_of h8_0)).2).1) (fun v J' _ ⟨y0, y1, hv, g0⟩ => ⟨{ UX.d with n := fun j => y0, p := fun j => y1 }, hv, g0⟩)
    case k12 =>
      rintro φ12 xs12 I12 w12 le12 s h12_2_0 h12_5_0 h12_6_0
      replace hT := Tab.mono le12 hT
      replace hla := BSl.mono le12 hla
      replace hlb := BSl.mono le12 hlb
      replace h5_1 := ERep.mono le12 h5_1
      replace h5_2 := RE.mono le12 h5_2
      replace h8_1 := ERep.mono le12 h8_1
      replace h8_2 := RE.mono le12 h8_2
      replace h11_2_0 := ERep.mono le12 h11_2_0
      replace h11_5_0 := ERep.mono le12 h11_5_0
      replace h11_8_0 := ERep.mono le12 h11_8_0
      replace h11_11_0 := ERep.mono le12 h11_11_0
      replace h11_14_0 := ERep.mono le12 h11_14_0
      replace h11_17_0 := ERep.mono le12 h11_17_0
      replace h11_20_0 := ERep.mono le12 h11_20_0
      replace h11_23_0 := ERep.mono le12 h11_23_0
      refine wp_seq ?_
      rcases Bool.eq_false_or_eq_true (leqF 64 (E.up (E.base e5) (E.left e5)) (E.up (E.base e8) (E.left e8))) with hc13 | hc13
      ·
        rcases Bool.eq_false_or_eq_true (leqF 64 e5 e8) with hc14 | hc14
        ·
          rcases Bool.eq_false_or_eq_true (leqF 64 (E.up (E.base e5) (E.right e5)) (E.up (E.base e8) (E.right e8))) with hc15 | hc15
          ·
            refine draw_rule (C := []) ⟨(fun φ16 xs16 => [.look 0 [] [], .look 0 [] [], .look 0 [] [], .look 0 [.o 0, .o 0] [(φ6 0), (φ6 0)], .look 0 [.o 1, .o 1] [(φ9 0), (φ9 0)], .call 29 #[.agg #[.int .u64 ((b5 : Nat) : Int), .pointer q5], .agg #[.int .u64 ((b8 : Nat) : Int), .pointer q8]], .look 0 [.o 2, .o 2] [(φ11 24), (φ11 24)], .look 0 [.o 4, .o 4] [(φ11 26), (φ11 26)], .call 29 #[.agg #[.int .u64 (((xs11 5).n 0 : Nat) : Int), .pointer ((xs11 5).p 0)], .agg #[.int .u64 (((xs11 17).n 0 : Nat) : Int), .pointer ((xs11 17).p 0)]], .look 0 [] [], .look 0 [.o 3, .o 3] [(φ11 25), (φ11 25)], .look 0 [.o 5, .o 5] [(φ11 27), (φ11 27)], .call 29 #[.agg #[.int .u64 (((xs11 11).n 0 : Nat) : Int), .pointer ((xs11 11).p 0)], .agg #[.int .u64 (((xs11 23).n 0 : Nat) : Int), .pointer ((xs11 23).p 0)]], .look 0 [] [], .look 0 [] [], .look 0 [] [], .look 0 [] [], .look 0 [.o 6, .o 6] [(φ12 10), (φ12 10)], .look 0 [.o 0, .o 0] [(φ6 0), (φ6 0)], .look 0 [.o 1, .o 1] [(φ9 0), (φ9 0)], .call 28 #[.agg #[.int .u64 ((b5 : Nat) : Int), .pointer q5], .agg #[.int .u64 ((b8 : Nat) : Int), .pointer q8]], .call 30 #[.agg #[.int .u64 (((xs12 6).n 0 : Nat) : Int), .pointer ((xs12 6).p 0)], .agg #[.int .u64 (((xs16 20).n 0 : Nat) : Int), .pointer ((xs16 20).p 0)]], .look 0 [] [], .look 0 [] [], .look 0 [.o 2, .o 2] [(φ11 24), (φ11 24)], .look 0 [] [], .call 41 #[.pointer (some ⟨k5, 0, none⟩)], .call 23 #[.agg #[.int .u64 (((xs11 5).n 0 : Nat) : Int), .pointer ((xs11 5).p 0)], .pointer (some ⟨(xs16 26).n 0, 0, none⟩)], .look 0 [] [], .look 0 [] [], .look 0 [.o 5, .o 5] [(φ11 27), (φ11 27)], .look 0 [] [], .call 42 #[.pointer (some ⟨k8, 0, none⟩)], .call 23 #[.agg #[.int .u64 (((xs11 23).n 0 : Nat) : Int), .pointer ((xs11 23).p 0)], .pointer (some ⟨(xs16 32).n 0, 0, none⟩)], .look 0 [] [], .look 0 [] []]), (fun φ16 xs16 => [.int .i64 0, .bool true, .bool true, .agg #[.int .u64 ((b5 : Nat) : Int), .pointer q5], .agg #[.int .u64 ((b8 : Nat) : Int), .pointer q8], .bool true, .agg #[.int .u64 (((xs11 5).n 0 : Nat) : Int), .pointer ((xs11 5).p 0)], .agg #[.int .u64 (((xs11 17).n 0 : Nat) : Int), .pointer ((xs11 17).p 0)], .bool true, .bool true, .agg #[.int .u64 (((xs11 11).n 0 : Nat) : Int), .pointer ((xs11 11).p 0)], .agg #[.int .u64 (((xs11 23).n 0 : Nat) : Int), .pointer ((xs11 23).p 0)], .bool true, .bool true, .bool true, .bool true, .bool true, .agg #[.int .u64 (((xs12 6).n 0 : Nat) : Int), .pointer ((xs12 6).p 0)], .agg #[.int .u64 ((b5 : Nat) : Int), .pointer q5], .agg #[.int .u64 ((b8 : Nat) : Int), .pointer q8], .agg #[.int .u64 (((xs16 20).n 0 : Nat) : Int), .pointer ((xs16 20).p 0)], .bool true, .bool true, .bool true, .agg #[.int .u64 (((xs11 5).n 0 : Nat) : Int), .pointer ((xs11 5).p 0)], .pointer (some ⟨k5, 0, none⟩), .pointer (some ⟨(xs16 26).n 0, 0, none⟩), .bool true, .bool true, .bool true, .agg #[.int .u64 (((xs11 23).n 0 : Nat) : Int), .pointer ((xs11 23).p 0)], .pointer (some ⟨k8, 0, none⟩), .pointer (some ⟨(xs16 32).n 0, 0, none⟩), .bool true, .bool true, .bool true]), (fun φ16 xs16 => [[((φ6 0), .cells #[.int .u64 ((b5 : Nat) : Int), .pointer q5] 27), ((φ9 0), .cells #[.int .u64 ((b8 : Nat) : Int), .pointer q8] 27), ((φ11 24), .cells #[.int .u64 (((xs11 5).n 0 : Nat) : Int), .pointer ((xs11 5).p 0)] 27), ((φ11 25), .cells #[.int .u64 (((xs11 11).n 0 : Nat) : Int), .pointer ((xs11 11).p 0)] 27), ((φ11 26), .cells #[.int .u64 (((xs11 17).n 0 : Nat) : Int), .pointer ((xs11 17).p 0)] 27), ((φ11 27), .cells #[.int .u64 (((xs11 23).n 0 : Nat) : Int), .pointer ((xs11 23).p 0)] 27), ((φ12 10), .cells #[.int .u64 (((xs12 6).n 0 : Nat) : Int), .pointer ((xs12 6).p 0)] 27)]]), (fun φ16 xs16 => [[default, default, default, default, default, default, default, default, default, default, default, default, default, default, default, default, default, default, default, default, default, default, default, default, default, default, default, default, default, default, default, default, default, default, default, default]]), [], [1, 1, 1, 1, 1, 3, 1, 1, 3, 1, 1, 1, 3, 1, 1, 1, 1, 1, 1, 1, 3, 3, 1, 1, 1, 1, 3, 3, 1, 1, 1, 1, 3, 3, 1, 1]⟩ (fun j => ([MP.any, MP.any, MP.any, MP.any, MP.any, MP.any, MP.any, MP.any, MP.any, MP.any, MP.any, MP.any, MP.any, MP.any, MP.any, MP.any, MP.any, MP.any, MP.any, MP.any, ⟨fun x J => ERep J (joinF 64 e5 e8) (x.n 0) (x.p 0), fun le h => ERep.mono le h⟩, MP.any, MP.any, MP.any, MP.any, MP.any, ⟨fun x J => RE J (E.up (E.base e5) (E.left e5)) (x.n 0), fun le h => RE.mono le h⟩, MP.any, MP.any, MP.any, MP.any, MP.any, ⟨fun x J => RE J (E.up (E.base e8) (E.right e8)) (x.n 0), fun le h => RE.mono le h⟩, MP.any, MP.any, MP.any] : List MP).getD j MP.any) [5, 8, 12, 20, 21, 26, 27, 32, 33] [] [] (fun φ16 xs16 => []) (fun φ16 xs16 => [(62, .int .i64 0), (63, .bool true), (64, .bool true), (65, .agg #[.int .u64 ((b5 : Nat) : Int), .pointer q5]), (66, .agg #[.int .u64 ((b8 : Nat) : Int), .pointer q8]), (67, .bool true), (68, .agg #[.int .u64 (((xs11 5).n 0 : Nat) : Int), .pointer ((xs11 5).p 0)]), (69, .agg #[.int .u64 (((xs11 17).n 0 : Nat) : Int), .pointer ((xs11 17).p 0)]), (70, .bool true), (71, .bool true), (72, .agg #[.int .u64 (((xs11 11).n 0 : Nat) : Int), .pointer ((xs11 11).p 0)]), (73, .agg #[.int .u64 (((xs11 23).n 0 : Nat) : Int), .pointer ((xs11 23).p 0)]), (74, .bool true), (75, .bool true), (76, .bool true), (77, .bool true), (78, .bool true), (79, .agg #[.int .u64 (((xs12 6).n 0 : Nat) : Int), .pointer ((xs12 6).p 0)]), (80, .agg #[.int .u64 ((b5 : Nat) : Int), .pointer q5]), (81, .agg #[.int .u64 ((b8 : Nat) : Int), .pointer q8]), (82, .agg #[.int .u64 (((xs16 20).n 0 : Nat) : Int), .pointer ((xs16 20).p 0)]), (83, .bool true), (84, .bool true), (85, .bool true), (86, .agg #[.int .u64 (((xs11 5).n 0 : Nat) : Int), .pointer ((xs11 5).p 0)]), (87, .pointer (some ⟨k5, 0, none⟩)), (88, .pointer (some ⟨(xs16 26).n 0, 0, none⟩)), (89, .bool true), (90, .bool true), (91, .bool true), (92, .agg #[.int .u64 (((xs11 23).n 0 : Nat) : Int), .pointer ((xs11 23).p 0)]), (93, .pointer (some ⟨k8, 0, none⟩)), (94, .pointer (some ⟨(xs16 32).n 0, 0, none⟩)), (95, .bool true), (96, .bool true), (4, .bool true)]) (fun φ16 xs16 => [((φ6 0), .cells #[.int .u64 ((b5 : Nat) : Int), .pointer q5] 27), ((φ9 0), .cells #[.int .u64 ((b8 : Nat) : Int), .pointer q8] 27), ((φ11 24), .cells #[.int .u64 (((xs11 5).n 0 : Nat) : Int), .pointer ((xs11 5).p 0)] 27), ((φ11 25), .cells #[.int .u64 (((xs11 11).n 0 : Nat) : Int), .pointer ((xs11 11).p 0)] 27), ((φ11 26), .cells #[.int .u64 (((xs11 17).n 0 : Nat) : Int), .pointer ((xs11 17).p 0)] 27), ((φ11 27), .cells #[.int .u64 (((xs11 23).n 0 : Nat) : Int), .pointer ((xs11 23).p 0)] 27), ((φ12 10), .cells #[.int .u64 (((xs12 6).n 0 : Nat) : Int), .pointer ((xs12 6).p 0)] 27)]) s trivial (by kernel_rfl) (by kernel_rfl) (fun _ _ => by kernel_rfl) (fun _ _ => by kernel_rfl) ⟨fun _ _ => by kernel_rfl, fun _ _ => by kernel_rfl, fun _ _ => by kernel_rfl, fun _ _ => by kernel_rfl⟩ (fun _ _ _ => by kernel_rfl) (fun _ _ => by kernel_rfl) (fun _ _ => by kernel_rfl) (fun _ _ => by kernel_rfl) (fun _ _ => by kernel_rfl) (fun _ _ => by kernel_rfl) trivial trivial (by kernel_rfl) ⟨?c16_5, ?c16_8, ?c16_12, ?c16_20, ?c16_21, ?c16_26, ?c16_27, ?c16_32, ?c16_33, trivial⟩ ?k16
            case c16_5 =>
              refine kcast (A := ∀ (φ16 : Nat → Nat) (xs16 : Xs) (J5_16 : IM), I12.Le J5_16 → Fun Tryd.prog 29 #[.agg #[.int .u64 ((b5 : Nat) : Int), .pointer q5], .agg #[.int .u64 ((b8 : Nat) : Int), .pointer q8]] J5_16 (fun v J' => ∃ x : UX, v = .bool true ∧ (True))) (by kernel_rfl) ?_
              intro φ16 xs16 J5_16 leJ
              have h5_1 := ERep.mono leJ h5_1
              have h8_1 := ERep.mono leJ h8_1
              exact Fun.mono (leqOE_c h5_1 h8_1 (ok_of h5_0) (ok_of h8_0)) (fun v J' _ h => ⟨UX.d, h.trans (congrArg Value.bool hc14), trivial⟩)
            case c16_8 =>
              refine kcast (A := ∀ (φ16 : Nat → Nat) (xs16 : Xs) (J8_16 : IM), I12.Le J8_16 → (True) → Fun Tryd.prog 29 #[.agg #[.int .u64 (((xs11 5).n 0 : Nat) : Int), .pointer ((xs11 5).p 0)], .agg #[.int .u64 (((xs11 17).n 0 : Nat) : Int), .pointer ((xs11 17).p 0)]] J8_16 (fun v J' => ∃ x : UX, v = .bool true ∧ (True))) (by kernel_rfl) ?_
              intro φ16 xs16 J8_16 leJ
              rintro _
              have h11_5_0 := ERep.mono leJ h11_5_0
              have h11_17_0 := ERep.mono leJ h11_17_0
              exact Fun.mono (leqOE_c h11_5_0 h11_17_0 (ok_half (ok_of h5_0)).1 (ok_half (ok_of h8_0)).1) (fun v J' _ h => ⟨UX.d, h.trans (congrArg Value.bool hc13), trivial⟩)
            case c16_12 =>
              refine kcast (A := ∀ (φ16 : Nat → Nat) (xs16 : Xs) (J12_16 : IM), I12.Le J12_16 → (True) → (True) → Fun Tryd.prog 29 #[.agg #[.int .u64 (((xs11 11).n 0 : Nat) : Int), .pointer ((xs11 11).p 0)], .agg #[.int .u64 (((xs11 23).n 0 : Nat) : Int), .pointer ((xs11 23).p 0)]] J12_16 (fun v J' => ∃ x : UX, v = .bool true ∧ (True))) (by kernel_rfl) ?_
              intro φ16 xs16 J12_16 leJ
              rintro _ _
              have h11_11_0 := ERep.mono leJ h11_11_0
              have h11_23_0 := ERep.mono leJ h11_23_0
              exact Fun.mono (leqOE_c h11_11_0 h11_23_0 (ok_half (ok_of h5_0)).2 (ok_half (ok_of h8_0)).2) (fun v J' _ h => ⟨UX.d, h.trans (congrArg Value.bool hc15), trivial⟩)
            case c16_20 =>
              refine kcast (A := ∀ (φ16 : Nat → Nat) (xs16 : Xs) (J20_16 : IM), I12.Le J20_16 → (True) → (True) → (True) → Fun Tryd.prog 28 #[.agg #[.int .u64 ((b5 : Nat) : Int), .pointer q5], .agg #[.int .u64 ((b8 : Nat) : Int), .pointer q8]] J20_16 (fun v J' => ∃ x : UX, v = .agg #[.int .u64 ((x.n 0 : Nat) : Int), .pointer (x.p 0)] ∧ (ERep J' (joinF 64 e5 e8) (x.n 0) (x.p 0)))) (by kernel_rfl) ?_
              intro φ16 xs16 J20_16 leJ
              rintro _ _ _
              have h5_1 := ERep.mono leJ h5_1
              have h8_1 := ERep.mono leJ h8_1
              exact Fun.mono (joinOE_c h5_1 h8_1 (ok_of h5_0) (ok_of h8_0)) (fun v J' _ ⟨y0, y1, hv, g0⟩ => ⟨{ UX.d with n := fun j => y0, p := fun j => y1 }, hv, g0⟩)
            case c16_21 =>
              refine kcast (A := ∀ (φ16 : Nat → Nat) (xs16 : Xs) (J21_16 : IM), I12.Le J21_16 → (True) → (True) → (True) → (ERep J21_16 (joinF 64 e5 e8) ((xs16 20).n 0) ((xs16 20).p 0)) → Fun Tryd.prog 30 #[.agg #[.int .u64 (((xs12 6).n 0 : Nat) : Int), .pointer ((xs12 6).p 0)], .agg #[.int .u64 (((xs16 20).n 0 : Nat) : Int), .pointer ((xs16 20).p 0)]] J21_16 (fun v J' => ∃ x : UX, v = .bool true ∧ (True))) (by kernel_rfl) ?_
              intro φ16 xs16 J21_16 leJ
              rintro _ _ _ h16_20_0
              have h12_6_0 := ERep.mono leJ h12_6_0
              exact Fun.mono (sameH_c (ok_of h5_0) (ok_of h8_0) h12_6_0 h16_20_0) (fun v J' _ h => ⟨UX.d, h, trivial⟩)
            case c16_26 =>
              refine kcast (A := ∀ (φ16 : Nat → Nat) (xs16 : Xs) (J26_16 : IM), I12.Le J26_16 → (True) → (True) → (True) → (ERep J26_16 (joinF 64 e5 e8) ((xs16 20).n 0) ((xs16 20).p 0)) → (True) → Fun Tryd.prog 41 #[.pointer (some ⟨k5, 0, none⟩)] J26_16 (fun v J' => ∃ x : UX, v = .pointer (some ⟨x.n 0, 0, none⟩) ∧ (RE J' (E.up (E.base e5) (E.left e5)) (x.n 0)))) (by kernel_rfl) ?_
              intro φ16 xs16 J26_16 leJ
              rintro _ _ _ h16_20_0 _
              have h5_2 := RE.mono leJ h5_2
              exact Fun.mono (reLeft_c h5_2 (by have := h5_0.2.2; omega)) (fun v J' _ ⟨y0, hv, g0⟩ => ⟨{ UX.d with n := fun j => y0 }, hv, g0⟩)
            case c16_27 =>
              refine kcast (A := ∀ (φ16 : Nat → Nat) (xs16 : Xs) (J27_16 : IM), I12.Le J27_16 → (True) → (True) → (True) → (ERep J27_16 (joinF 64 e5 e8) ((xs16 20).n 0) ((xs16 20).p 0)) → (True) → (RE J27_16 (E.up (E.base e5) (E.left e5)) ((xs16 26).n 0)) → Fun Tryd.prog 23 #[.agg #[.int .u64 (((xs11 5).n 0 : Nat) : Int), .pointer ((xs11 5).p 0)], .pointer (some ⟨(xs16 26).n 0, 0, none⟩)] J27_16 (fun v J' => ∃ x : UX, v = .bool true ∧ (True))) (by kernel_rfl) ?_
              intro φ16 xs16 J27_16 leJ
              rintro _ _ _ h16_20_0 _ h16_26_0
              have hT := Tab.mono leJ hT
              have h11_5_0 := ERep.mono leJ h11_5_0
              exact Fun.mono (likeE_c (E.up (E.base e5) (E.left e5)) hT h11_5_0 h16_26_0 (ok_half (ok_of h5_0)).1.1 (Nat.le_trans (ok_half (ok_of h5_0)).1.2.1 (by decide)) (Nat.lt_of_le_of_lt (ok_half (ok_of h5_0)).1.2.2 (by decide))) (fun v J' _ h => ⟨UX.d, h, trivial⟩)
            case c16_32 =>
              refine kcast (A := ∀ (φ16 : Nat → Nat) (xs16 : Xs) (J32_16 : IM), I12.Le J32_16 → (True) → (True) → (True) → (ERep J32_16 (joinF 64 e5 e8) ((xs16 20).n 0) ((xs16 20).p 0)) → (True) → (RE J32_16 (E.up (E.base e5) (E.left e5)) ((xs16 26).n 0)) → (True) → Fun Tryd.prog 42 #[.pointer (some ⟨k8, 0, none⟩)] J32_16 (fun v J' => ∃ x : UX, v = .pointer (some ⟨x.n 0, 0, none⟩) ∧ (RE J' (E.up (E.base e8) (E.right e8)) (x.n 0)))) (by kernel_rfl) ?_
              intro φ16 xs16 J32_16 leJ
              rintro _ _ _ h16_20_0 _ h16_26_0 _
              have h8_2 := RE.mono leJ h8_2
              exact Fun.mono (reRight_c h8_2 (by have := h8_0.2.2; omega)) (fun v J' _ ⟨y0, hv, g0⟩ => ⟨{ UX.d with n := fun j => y0 }, hv, g0⟩)
            case c16_33 =>
              refine kcast (A := ∀ (φ16 : Nat → Nat) (xs16 : Xs) (J33_16 : IM), I12.Le J33_16 → (True) → (True) → (True) → (ERep J33_16 (joinF 64 e5 e8) ((xs16 20).n 0) ((xs16 20).p 0)) → (True) → (RE J33_16 (E.up (E.base e5) (E.left e5)) ((xs16 26).n 0)) → (True) → (RE J33_16 (E.up (E.base e8) (E.right e8)) ((xs16 32).n 0)) → Fun Tryd.prog 23 #[.agg #[.int .u64 (((xs11 23).n 0 : Nat) : Int), .pointer ((xs11 23).p 0)], .pointer (some ⟨(xs16 32).n 0, 0, none⟩)] J33_16 (fun v J' => ∃ x : UX, v = .bool true ∧ (True))) (by kernel_rfl) ?_
              intro φ16 xs16 J33_16 leJ
              rintro _ _ _ h16_20_0 _ h16_26_0 _ h16_32_0
              have hT := Tab.mono leJ hT
              have h11_23_0 := ERep.mono leJ h11_23_0
              exact Fun.mono (likeE_c (E.up (E.base e8) (E.right e8)) hT h11_23_0 h16_32_0 (ok_half (ok_of h8_0)).2.1 (Nat.le_trans (ok_half (ok_of h8_0)).2.2.1 (by decide)) (Nat.lt_of_le_of_lt (ok_half (ok_of h8_0)).2.2.2 (by decide))) (fun v J' _ h => ⟨UX.d, h, trivial⟩)
            case k16 =>
              rintro φ16 xs16 I16 w16 le16 s _ _ _ h16_20_0 _ h16_26_0 _ h16_32_0 _
              replace hT := Tab.mono le16 hT
              replace hla := BSl.mono le16 hla
              replace hlb := BSl.mono le16 hlb
              replace h5_1 := ERep.mono le16 h5_1
              replace h5_2 := RE.mono le16 h5_2
              replace h8_1 := ERep.mono le16 h8_1
              replace h8_2 := RE.mono le16 h8_2
              replace h11_2_0 := ERep.mono le16 h11_2_0
              replace h11_5_0 := ERep.mono le16 h11_5_0
              replace h11_8_0 := ERep.mono le16 h11_8_0
              replace h11_11_0 := ERep.mono le16 h11_11_0
              replace h11_14_0 := ERep.mono le16 h11_14_0
              replace h11_17_0 := ERep.mono le16 h11_17_0
              replace h11_20_0 := ERep.mono le16 h11_20_0
              replace h11_23_0 := ERep.mono le16 h11_23_0
              replace h12_2_0 := ERep.mono le16 h12_2_0
              replace h12_5_0 := ERep.mono le16 h12_5_0
              replace h12_6_0 := ERep.mono le16 h12_6_0
              refine wp_ret ?_
              refine ret_rule (C := []) [((φ6 0), .cells #[.int .u64 ((b5 : Nat) : Int), .pointer q5] 27), ((φ9 0), .cells #[.int .u64 ((b8 : Nat) : Int), .pointer q8] 27), ((φ11 24), .cells #[.int .u64 (((xs11 5).n 0 : Nat) : Int), .pointer ((xs11 5).p 0)] 27), ((φ11 25), .cells #[.int .u64 (((xs11 11).n 0 : Nat) : Int), .pointer ((xs11 11).p 0)] 27), ((φ11 26), .cells #[.int .u64 (((xs11 17).n 0 : Nat) : Int), .pointer ((xs11 17).p 0)] 27), ((φ11 27), .cells #[.int .u64 (((xs11 23).n 0 : Nat) : Int), .pointer ((xs11 23).p 0)] 27), ((φ12 10), .cells #[.int .u64 (((xs12 6).n 0 : Nat) : Int), .pointer ((xs12 6).p 0)] 27)] [] (.bool true) [] [] s trivial (by kernel_rfl) ?_
              exact ⟨_, _, _, rfl, s, rfl⟩
          ·
            have hz := leq_halves (ok_of h5_0) (ok_of h8_0)
            rw [hc14, hc13, hc15] at hz
            simp at hz
        ·
          rcases Bool.eq_false_or_eq_true (leqF 64 (E.up (E.base e5) (E.right e5)) (E.up (E.base e8) (E.right e8))) with hc17 | hc17
          ·
            have hz := leq_halves (ok_of h5_0) (ok_of h8_0)
            rw [hc14, hc13, hc17] at hz
            simp at hz
          ·
            refine draw_rule (C := []) ⟨(fun φ18 xs18 => [.look 0 [] [], .look 0 [] [], .look 0 [] [], .look 0 [.o 0, .o 0] [(φ6 0), (φ6 0)], .look 0 [.o 1, .o 1] [(φ9 0), (φ9 0)], .call 29 #[.agg #[.int .u64 ((b5 : Nat) : Int), .pointer q5], .agg #[.int .u64 ((b8 : Nat) : Int), .pointer q8]], .look 0 [.o 2, .o 2] [(φ11 24), (φ11 24)], .look 0 [.o 4, .o 4] [(φ11 26), (φ11 26)], .call 29 #[.agg #[.int .u64 (((xs11 5).n 0 : Nat) : Int), .pointer ((xs11 5).p 0)], .agg #[.int .u64 (((xs11 17).n 0 : Nat) : Int), .pointer ((xs11 17).p 0)]], .look 0 [] [], .look 0 [.o 3, .o 3] [(φ11 25), (φ11 25)], .look 0 [.o 5, .o 5] [(φ11 27), (φ11 27)], .call 29 #[.agg #[.int .u64 (((xs11 11).n 0 : Nat) : Int), .pointer ((xs11 11).p 0)], .agg #[.int .u64 (((xs11 23).n 0 : Nat) : Int), .pointer ((xs11 23).p 0)]], .look 0 [] [], .look 0 [] [], .look 0 [] [], .look 0 [] [], .look 0 [.o 6, .o 6] [(φ12 10), (φ12 10)], .look 0 [.o 0, .o 0] [(φ6 0), (φ6 0)], .look 0 [.o 1, .o 1] [(φ9 0), (φ9 0)], .call 28 #[.agg #[.int .u64 ((b5 : Nat) : Int), .pointer q5], .agg #[.int .u64 ((b8 : Nat) : Int), .pointer q8]], .call 30 #[.agg #[.int .u64 (((xs12 6).n 0 : Nat) : Int), .pointer ((xs12 6).p 0)], .agg #[.int .u64 (((xs18 20).n 0 : Nat) : Int), .pointer ((xs18 20).p 0)]], .look 0 [] [], .look 0 [] [], .look 0 [.o 2, .o 2] [(φ11 24), (φ11 24)], .look 0 [] [], .call 41 #[.pointer (some ⟨k5, 0, none⟩)], .call 23 #[.agg #[.int .u64 (((xs11 5).n 0 : Nat) : Int), .pointer ((xs11 5).p 0)], .pointer (some ⟨(xs18 26).n 0, 0, none⟩)], .look 0 [] [], .look 0 [] [], .look 0 [.o 5, .o 5] [(φ11 27), (φ11 27)], .look 0 [] [], .call 42 #[.pointer (some ⟨k8, 0, none⟩)], .call 23 #[.agg #[.int .u64 (((xs11 23).n 0 : Nat) : Int), .pointer ((xs11 23).p 0)], .pointer (some ⟨(xs18 32).n 0, 0, none⟩)], .look 0 [] [], .look 0 [] []]), (fun φ18 xs18 => [.int .i64 0, .bool true, .bool true, .agg #[.int .u64 ((b5 : Nat) : Int), .pointer q5], .agg #[.int .u64 ((b8 : Nat) : Int), .pointer q8], .bool false, .agg #[.int .u64 (((xs11 5).n 0 : Nat) : Int), .pointer ((xs11 5).p 0)], .agg #[.int .u64 (((xs11 17).n 0 : Nat) : Int), .pointer ((xs11 17).p 0)], .bool true, .bool true, .agg #[.int .u64 (((xs11 11).n 0 : Nat) : Int), .pointer ((xs11 11).p 0)], .agg #[.int .u64 (((xs11 23).n 0 : Nat) : Int), .pointer ((xs11 23).p 0)], .bool false, .bool false, .bool true, .bool true, .bool true, .agg #[.int .u64 (((xs12 6).n 0 : Nat) : Int), .pointer ((xs12 6).p 0)], .agg #[.int .u64 ((b5 : Nat) : Int), .pointer q5], .agg #[.int .u64 ((b8 : Nat) : Int), .pointer q8], .agg #[.int .u64 (((xs18 20).n 0 : Nat) : Int), .pointer ((xs18 20).p 0)], .bool true, .bool true, .bool true, .agg #[.int .u64 (((xs11 5).n 0 : Nat) : Int), .pointer ((xs11 5).p 0)], .pointer (some ⟨k5, 0, none⟩), .pointer (some ⟨(xs18 26).n 0, 0, none⟩), .bool true, .bool true, .bool true, .agg #[.int .u64 (((xs11 23).n 0 : Nat) : Int), .pointer ((xs11 23).p 0)], .pointer (some ⟨k8, 0, none⟩), .pointer (some ⟨(xs18 32).n 0, 0, none⟩), .bool true, .bool true, .bool true]), (fun φ18 xs18 => [[((φ6 0), .cells #[.int .u64 ((b5 : Nat) : Int), .pointer q5] 27), ((φ9 0), .cells #[.int .u64 ((b8 : Nat) : Int), .pointer q8] 27), ((φ11 24), .cells #[.int .u64 (((xs11 5).n 0 : Nat) : Int), .pointer ((xs11 5).p 0)] 27), ((φ11 25), .cells #[.int .u64 (((xs11 11).n 0 : Nat) : Int), .pointer ((xs11 11).p 0)] 27), ((φ11 26), .cells #[.int .u64 (((xs11 17).n 0 : Nat) : Int), .pointer ((xs11 17).p 0)] 27), ((φ11 27), .cells #[.int .u64 (((xs11 23).n 0 : Nat) : Int), .pointer ((xs11 23).p 0)] 27), ((φ12 10), .cells #[.int .u64 (((xs12 6).n 0 : Nat) : Int), .pointer ((xs12 6).p 0)] 27)]]), (fun φ18 xs18 => [[default, default, default, default, default, default, default, default, default, default, default, default, default, default, default, default, default, default, default, default, default, default, default, default, default, default, default, default, default, default, default, default, default, default, default, default]]), [], [1, 1, 1, 1, 1, 3, 1, 1, 3, 1, 1, 1, 3, 1, 1, 1, 1, 1, 1, 1, 3, 3, 1, 1, 1, 1, 3, 3, 1, 1, 1, 1, 3, 3, 1, 1]⟩ (fun j => ([MP.any, MP.any, MP.any, MP.any, MP.any, MP.any, MP.any, MP.any, MP.any, MP.any, MP.any, MP.any, MP.any, MP.any, MP.any, MP.any, MP.any, MP.any, MP.any, MP.any, ⟨fun x J => ERep J (joinF 64 e5 e8) (x.n 0) (x.p 0), fun le h => ERep.mono le h⟩, MP.any, MP.any, MP.any, MP.any, MP.any, ⟨fun x J => RE J (E.up (E.base e5) (E.left e5)) (x.n 0), fun le h => RE.mono le h⟩, MP.any, MP.any, MP.any, MP.any, MP.any, ⟨fun x J => RE J (E.up (E.base e8) (E.right e8)) (x.n 0), fun le h => RE.mono le h⟩, MP.any, MP.any, MP.any] : List MP).getD j MP.any) [5, 8, 12, 20, 21, 26, 27, 32, 33] [] [] (fun φ18 xs18 => []) (fun φ18 xs18 => [(62, .int .i64 0), (63, .bool true), (64, .bool true), (65, .agg #[.int .u64 ((b5 : Nat) : Int), .pointer q5]), (66, .agg #[.int .u64 ((b8 : Nat) : Int), .pointer q8]), (67, .bool false), (68, .agg #[.int .u64 (((xs11 5).n 0 : Nat) : Int), .pointer ((xs11 5).p 0)]), (69, .agg #[.int .u64 (((xs11 17).n 0 : Nat) : Int), .pointer ((xs11 17).p 0)]), (70, .bool true), (71, .bool true), (72, .agg #[.int .u64 (((xs11 11).n 0 : Nat) : Int), .pointer ((xs11 11).p 0)]), (73, .agg #[.int .u64 (((xs11 23).n 0 : Nat) : Int), .pointer ((xs11 23).p 0)]), (74, .bool false), (75, .bool false), (76, .bool true), (77, .bool true), (78, .bool true), (79, .agg #[.int .u64 (((xs12 6).n 0 : Nat) : Int), .pointer ((xs12 6).p 0)]), (80, .agg #[.int .u64 ((b5 : Nat) : Int), .pointer q5]), (81, .agg #[.int .u64 ((b8 : Nat) : Int), .pointer q8]), (82, .agg #[.int .u64 (((xs18 20).n 0 : Nat) : Int), .pointer ((xs18 20).p 0)]), (83, .bool true), (84, .bool true), (85, .bool true), (86, .agg #[.int .u64 (((xs11 5).n 0 : Nat) : Int), .pointer ((xs11 5).p 0)]), (87, .pointer (some ⟨k5, 0, none⟩)), (88, .pointer (some ⟨(xs18 26).n 0, 0, none⟩)), (89, .bool true), (90, .bool true), (91, .bool true), (92, .agg #[.int .u64 (((xs11 23).n 0 : Nat) : Int), .pointer ((xs11 23).p 0)]), (93, .pointer (some ⟨k8, 0, none⟩)), (94, .pointer (some ⟨(xs18 32).n 0, 0, none⟩)), (95, .bool true), (96, .bool true), (4, .bool true)]) (fun φ18 xs18 => [((φ6 0), .cells #[.int .u64 ((b5 : Nat) : Int), .pointer q5] 27), ((φ9 0), .cells #[.int .u64 ((b8 : Nat) : Int), .pointer q8] 27), ((φ11 24), .cells #[.int .u64 (((xs11 5).n 0 : Nat) : Int), .pointer ((xs11 5).p 0)] 27), ((φ11 25), .cells #[.int .u64 (((xs11 11).n 0 : Nat) : Int), .pointer ((xs11 11).p 0)] 27), ((φ11 26), .cells #[.int .u64 (((xs11 17).n 0 : Nat) : Int), .pointer ((xs11 17).p 0)] 27), ((φ11 27), .cells #[.int .u64 (((xs11 23).n 0 : Nat) : Int), .pointer ((xs11 23).p 0)] 27), ((φ12 10), .cells #[.int .u64 (((xs12 6).n 0 : Nat) : Int), .pointer ((xs12 6).p 0)] 27)]) s trivial (by kernel_rfl) (by kernel_rfl) (fun _ _ => by kernel_rfl) (fun _ _ => by kernel_rfl) ⟨fun _ _ => by kernel_rfl, fun _ _ => by kernel_rfl, fun _ _ => by kernel_rfl, fun _ _ => by kernel_rfl⟩ (fun _ _ _ => by kernel_rfl) (fun _ _ => by kernel_rfl) (fun _ _ => by kernel_rfl) (fun _ _ => by kernel_rfl) (fun _ _ => by kernel_rfl) (fun _ _ => by kernel_rfl) trivial trivial (by kernel_rfl) ⟨?c18_5, ?c18_8, ?c18_12, ?c18_20, ?c18_21, ?c18_26, ?c18_27, ?c18_32, ?c18_33, trivial⟩ ?k18
            case c18_5 =>
              refine kcast (A := ∀ (φ18 : Nat → Nat) (xs18 : Xs) (J5_18 : IM), I12.Le J5_18 → Fun Tryd.prog 29 #[.agg #[.int .u64 ((b5 : Nat) : Int), .pointer q5], .agg #[.int .u64 ((b8 : Nat) : Int), .pointer q8]] J5_18 (fun v J' => ∃ x : UX, v = .bool false ∧ (True))) (by kernel_rfl) ?_
              intro φ18 xs18 J5_18 leJ
              have h5_1 := ERep.mono leJ h5_1
              have h8_1 := ERep.mono leJ h8_1
              exact Fun.mono (leqOE_c h5_1 h8_1 (ok_of h5_0) (ok_of h8_0)) (fun v J' _ h => ⟨UX.d, h.trans (congrArg Value.bool hc14), trivial⟩)
            case c18_8 =>
              refine kcast (A := ∀ (φ18 : Nat → Nat) (xs18 : Xs) (J8_18 : IM), I12.Le J8_18 → (True) → Fun Tryd.prog 29 #[.agg #[.int .u64 (((xs11 5).n 0 : Nat) : Int), .pointer ((xs11 5).p 0)], .agg #[.int .u64 (((xs11 17).n 0 : Nat) : Int), .pointer ((xs11 17).p 0)]] J8_18 (fun v J' => ∃ x : UX, v = .bool true ∧ (True))) (by kernel_rfl) ?_
              intro φ18 xs18 J8_18 leJ
              rintro _
              have h11_5_0 := ERep.mono leJ h11_5_0
              have h11_17_0 := ERep.mono leJ h11_17_0
              exact Fun.mono (leqOE_c h11_5_0 h11_17_0 (ok_half (ok_of h5_0)).1 (ok_half (ok_of h8_0)).1) (fun v J' _ h => ⟨UX.d, h.trans (congrArg Value.bool hc13), trivial⟩)
            case c18_12 =>
              refine kcast (A := ∀ (φ18 : Nat → Nat) (xs18 : Xs) (J12_18 : IM), I12.Le J12_18 → (True) → (True) → Fun Tryd.prog 29 #[.agg #[.int .u64 (((xs11 11).n 0 : Nat) : Int), .pointer ((xs11 11).p 0)], .agg #[.int .u64 (((xs11 23).n 0 : Nat) : Int), .pointer ((xs11 23).p 0)]] J12_18 (fun v J' => ∃ x : UX, v = .bool false ∧ (True))) (by kernel_rfl) ?_
              intro φ18 xs18 J12_18 leJ
              rintro _ _
              have h11_11_0 := ERep.mono leJ h11_11_0
              have h11_23_0 := ERep.mono leJ h11_23_0
              exact Fun.mono (leqOE_c h11_11_0 h11_23_0 (ok_half (ok_of h5_0)).2 (ok_half (ok_of h8_0)).2) (fun v J' _ h => ⟨UX.d, h.trans (congrArg Value.bool hc17), trivial⟩)
            case c18_20 =>
              refine kcast (A := ∀ (φ18 : Nat → Nat) (xs18 : Xs) (J20_18 : IM), I12.Le J20_18 → (True) → (True) → (True) → Fun Tryd.prog 28 #[.agg #[.int .u64 ((b5 : Nat) : Int), .pointer q5], .agg #[.int .u64 ((b8 : Nat) : Int), .pointer q8]] J20_18 (fun v J' => ∃ x : UX, v = .agg #[.int .u64 ((x.n 0 : Nat) : Int), .pointer (x.p 0)] ∧ (ERep J' (joinF 64 e5 e8) (x.n 0) (x.p 0)))) (by kernel_rfl) ?_
              intro φ18 xs18 J20_18 leJ
              rintro _ _ _
              have h5_1 := ERep.mono leJ h5_1
              have h8_1 := ERep.mono leJ h8_1
              exact Fun.mono (joinOE_c h5_1 h8_1 (ok_of h5_0) (ok_of h8_0)) (fun v J' _ ⟨y0, y1, hv, g0⟩ => ⟨{ UX.d with n := fun j => y0, p := fun j => y1 }, hv, g0⟩)
            case c18_21 =>
              refine kcast (A := ∀ (φ18 : Nat → Nat) (xs18 : Xs) (J21_18 : IM), I12.Le J21_18 → (True) → (True) → (True) → (ERep J21_18 (joinF 64 e5 e8) ((xs18 20).n 0) ((xs18 20).p 0)) → Fun Tryd.prog 30 #[.agg #[.int .u64 (((xs12 6).n 0 : Nat) : Int), .pointer ((xs12 6).p 0)], .agg #[.int .u64 (((xs18 20).n 0 : Nat) : Int), .pointer ((xs18 20).p 0)]] J21_18 (fun v J' => ∃ x : UX, v = .bool true ∧ (True))) (by kernel_rfl) ?_
              intro φ18 xs18 J21_18 leJ
              rintro _ _ _ h18_20_0
              have h12_6_0 := ERep.mono leJ h12_6_0
              exact Fun.mono (sameH_c (ok_of h5_0) (ok_of h8_0) h12_6_0 h18_20_0) (fun v J' _ h => ⟨UX.d, h, trivial⟩)
            case c18_26 =>
              refine kcast (A := ∀ (φ18 : Nat → Nat) (xs18 : Xs) (J26_18 : IM), I12.Le J26_18 → (True) → (True) → (True) → (ERep J26_18 (joinF 64 e5 e8) ((xs18 20).n 0) ((xs18 20).p 0)) → (True) → Fun Tryd.prog 41 #[.pointer (some ⟨k5, 0, none⟩)] J26_18 (fun v J' => ∃ x : UX, v = .pointer (some ⟨x.n 0, 0, none⟩) ∧ (RE J' (E.up (E.base e5) (E.left e5)) (x.n 0)))) (by kernel_rfl) ?_
              intro φ18 xs18 J26_18 leJ
              rintro _ _ _ h18_20_0 _
              have h5_2 := RE.mono leJ h5_2
              exact Fun.mono (reLeft_c h5_2 (by have := h5_0.2.2; omega)) (fun v J' _ ⟨y0, hv, g0⟩ => ⟨{ UX.d with n := fun j => y0 }, hv, g0⟩)
            case c18_27 =>
              refine kcast (A := ∀ (φ18 : Nat → Nat) (xs18 : Xs) (J27_18 : IM), I12.Le J27_18 → (True) → (True) → (True) → (ERep J27_18 (joinF 64 e5 e8) ((xs18 20).n 0) ((xs18 20).p 0)) → (True) → (RE J27_18 (E.up (E.base e5) (E.left e5)) ((xs18 26).n 0)) → Fun Tryd.prog 23 #[.agg #[.int .u64 (((xs11 5).n 0 : Nat) : Int), .pointer ((xs11 5).p 0)], .pointer (some ⟨(xs18 26).n 0, 0, none⟩)] J27_18 (fun v J' => ∃ x : UX, v = .bool true ∧ (True))) (by kernel_rfl) ?_
              intro φ18 xs18 J27_18 leJ
              rintro _ _ _ h18_20_0 _ h18_26_0
              have hT := Tab.mono leJ hT
              have h11_5_0 := ERep.mono leJ h11_5_0
              exact Fun.mono (likeE_c (E.up (E.base e5) (E.left e5)) hT h11_5_0 h18_26_0 (ok_half (ok_of h5_0)).1.1 (Nat.le_trans (ok_half (ok_of h5_0)).1.2.1 (by decide)) (Nat.lt_of_le_of_lt (ok_half (ok_of h5_0)).1.2.2 (by decide))) (fun v J' _ h => ⟨UX.d, h, trivial⟩)
            case c18_32 =>
              refine kcast (A := ∀ (φ18 : Nat → Nat) (xs18 : Xs) (J32_18 : IM), I12.Le J32_18 → (True) → (True) → (True) → (ERep J32_18 (joinF 64 e5 e8) ((xs18 20).n 0) ((xs18 20).p 0)) → (True) → (RE J32_18 (E.up (E.base e5) (E.left e5)) ((xs18 26).n 0)) → (True) → Fun Tryd.prog 42 #[.pointer (some ⟨k8, 0, none⟩)] J32_18 (fun v J' => ∃ x : UX, v = .pointer (some ⟨x.n 0, 0, none⟩) ∧ (RE J' (E.up (E.base e8) (E.right e8)) (x.n 0)))) (by kernel_rfl) ?_
              intro φ18 xs18 J32_18 leJ
              rintro _ _ _ h18_20_0 _ h18_26_0 _
              have h8_2 := RE.mono leJ h8_2
              exact Fun.mono (reRight_c h8_2 (by have := h8_0.2.2; omega)) (fun v J' _ ⟨y0, hv, g0⟩ => ⟨{ UX.d with n := fun j => y0 }, hv, g0⟩)
            case c18_33 =>
              refine kcast (A := ∀ (φ18 : Nat → Nat) (xs18 : Xs) (J33_18 : IM), I12.Le J33_18 → (True) → (True) → (True) → (ERep J33_18 (joinF 64 e5 e8) ((xs18 20).n 0) ((xs18 20).p 0)) → (True) → (RE J33_18 (E.up (E.base e5) (E.left e5)) ((xs18 26).n 0)) → (True) → (RE J33_18 (E.up (E.base e8) (E.right e8)) ((xs18 32).n 0)) → Fun Tryd.prog 23 #[.agg #[.int .u64 (((xs11 23).n 0 : Nat) : Int), .pointer ((xs11 23).p 0)], .pointer (some ⟨(xs18 32).n 0, 0, none⟩)] J33_18 (fun v J' => ∃ x : UX, v = .bool true ∧ (True))) (by kernel_rfl) ?_
              intro φ18 xs18 J33_18 leJ
              rintro _ _ _ h18_20_0 _ h18_26_0 _ h18_32_0
              have hT := Tab.mono leJ hT
              have h11_23_0 := ERep.mono leJ h11_23_0
              exact Fun.mono (likeE_c (E.up (E.base e8) (E.right e8)) hT h11_23_0 h18_32_0 (ok_half (ok_of h8_0)).2.1 (Nat.le_trans (ok_half (ok_of h8_0)).2.2.1 (by decide)) (Nat.lt_of_le_of_lt (ok_half (ok_of h8_0)).2.2.2 (by decide))) (fun v J' _ h => ⟨UX.d, h, trivial⟩)
            case k18 =>
              rintro φ18 xs18 I18 w18 le18 s _ _ _ h18_20_0 _ h18_26_0 _ h18_32_0 _
              replace hT := Tab.mono le18 hT
              replace hla := BSl.mono le18 hla
              replace hlb := BSl.mono le18 hlb
              replace h5_1 := ERep.mono le18 h5_1
              replace h5_2 := RE.mono le18 h5_2
              replace h8_1 := ERep.mono le18 h8_1
              replace h8_2 := RE.mono le18 h8_2
              replace h11_2_0 := ERep.mono le18 h11_2_0
              replace h11_5_0 := ERep.mono le18 h11_5_0
              replace h11_8_0 := ERep.mono le18 h11_8_0
              replace h11_11_0 := ERep.mono le18 h11_11_0
              replace h11_14_0 := ERep.mono le18 h11_14_0
              replace h11_17_0 := ERep.mono le18 h11_17_0
              replace h11_20_0 := ERep.mono le18 h11_20_0
              replace h11_23_0 := ERep.mono le18 h11_23_0
              replace h12_2_0 := ERep.mono le18 h12_2_0
              replace h12_5_0 := ERep.mono le18 h12_5_0
              replace h12_6_0 := ERep.mono le18 h12_6_0
              refine wp_ret ?_
              refine ret_rule (C := []) [((φ6 0), .cells #[.int .u64 ((b5 : Nat) : Int), .pointer q5] 27), ((φ9 0), .cells #[.int .u64 ((b8 : Nat) : Int), .pointer q8] 27), ((φ11 24), .cells #[.int .u64 (((xs11 5).n 0 : Nat) : Int), .pointer ((xs11 5).p 0)] 27), ((φ11 25), .cells #[.int .u64 (((xs11 11).n 0 : Nat) : Int), .pointer ((xs11 11).p 0)] 27), ((φ11 26), .cells #[.int .u64 (((xs11 17).n 0 : Nat) : Int), .pointer ((xs11 17).p 0)] 27), ((φ11 27), .cells #[.int .u64 (((xs11 23).n 0 : Nat) : Int), .pointer ((xs11 23).p 0)] 27), ((φ12 10), .cells #[.int .u64 (((xs12 6).n 0 : Nat) : Int), .pointer ((xs12 6).p 0)] 27)] [] (.bool true) [] [] s trivial (by kernel_rfl) ?_
              exact ⟨_, _, _, rfl, s, rfl⟩
      ·
        rcases Bool.eq_false_or_eq_true (leqF 64 e5 e8) with hc19 | hc19
        ·
          have hz := leq_halves (ok_of h5_0) (ok_of h8_0)
          rw [hc19, hc13] at hz
          simp at hz
        ·
          refine draw_rule (C := []) ⟨(fun φ20 xs20 => [.look 0 [] [], .look 0 [] [], .look 0 [] [], .look 0 [.o 0, .o 0] [(φ6 0), (φ6 0)], .look 0 [.o 1, .o 1] [(φ9 0), (φ9 0)], .call 29 #[.agg #[.int .u64 ((b5 : Nat) : Int), .pointer q5], .agg #[.int .u64 ((b8 : Nat) : Int), .pointer q8]], .look 0 [.o 2, .o 2] [(φ11 24), (φ11 24)], .look 0 [.o 4, .o 4] [(φ11 26), (φ11 26)], .call 29 #[.agg #[.int .u64 (((xs11 5).n 0 : Nat) : Int), .pointer ((xs11 5).p 0)], .agg #[.int .u64 (((xs11 17).n 0 : Nat) : Int), .pointer ((xs11 17).p 0)]], .look 0 [] [], .skip, .skip, .skip, .look 0 [] [], .look 0 [] [], .look 0 [] [], .look 0 [] [], .look 0 [.o 6, .o 6] [(φ12 10), (φ12 10)], .look 0 [.o 0, .o 0] [(φ6 0), (φ6 0)], .look 0 [.o 1, .o 1] [(φ9 0), (φ9 0)], .call 28 #[.agg #[.int .u64 ((b5 : Nat) : Int), .pointer q5], .agg #[.int .u64 ((b8 : Nat) : Int), .pointer q8]], .call 30 #[.agg #[.int .u64 (((xs12 6).n 0 : Nat) : Int), .pointer ((xs12 6).p 0)], .agg #[.int .u64 (((xs20 20).n 0 : Nat) : Int), .pointer ((xs20 20).p 0)]], .look 0 [] [], .look 0 [] [], .look 0 [.o 2, .o 2] [(φ11 24), (φ11 24)], .look 0 [] [], .call 41 #[.pointer (some ⟨k5, 0, none⟩)], .call 23 #[.agg #[.int .u64 (((xs11 5).n 0 : Nat) : Int), .pointer ((xs11 5).p 0)], .pointer (some ⟨(xs20 26).n 0, 0, none⟩)], .look 0 [] [], .look 0 [] [], .look 0 [.o 5, .o 5] [(φ11 27), (φ11 27)], .look 0 [] [], .call 42 #[.pointer (some ⟨k8, 0, none⟩)], .call 23 #[.agg #[.int .u64 (((xs11 23).n 0 : Nat) : Int), .pointer ((xs11 23).p 0)], .pointer (some ⟨(xs20 32).n 0, 0, none⟩)], .look 0 [] [], .look 0 [] []]), (fun φ20 xs20 => [.int .i64 0, .bool true, .bool true, .agg #[.int .u64 ((b5 : Nat) : Int), .pointer q5], .agg #[.int .u64 ((b8 : Nat) : Int), .pointer q8], .bool false, .agg #[.int .u64 (((xs11 5).n 0 : Nat) : Int), .pointer ((xs11 5).p 0)], .agg #[.int .u64 (((xs11 17).n 0 : Nat) : Int), .pointer ((xs11 17).p 0)], .bool false, .bool false, undef, undef, undef, .bool false, .bool true, .bool true, .bool true, .agg #[.int .u64 (((xs12 6).n 0 : Nat) : Int), .pointer ((xs12 6).p 0)], .agg #[.int .u64 ((b5 : Nat) : Int), .pointer q5], .agg #[.int .u64 ((b8 : Nat) : Int), .pointer q8], .agg #[.int .u64 (((xs20 20).n 0 : Nat) : Int), .pointer ((xs20 20).p 0)], .bool true, .bool true, .bool true, .agg #[.int .u64 (((xs11 5).n 0 : Nat) : Int), .pointer ((xs11 5).p 0)], .pointer (some ⟨k5, 0, none⟩), .pointer (some ⟨(xs20 26).n 0, 0, none⟩), .bool true, .bool true, .bool true, .agg #[.int .u64 (((xs11 23).n 0 : Nat) : Int), .pointer ((xs11 23).p 0)], .pointer (some ⟨k8, 0, none⟩), .pointer (some ⟨(xs20 32).n 0, 0, none⟩), .bool true, .bool true, .bool true]), (fun φ20 xs20 => [[((φ6 0), .cells #[.int .u64 ((b5 : Nat) : Int), .pointer q5] 27), ((φ9 0), .cells #[.int .u64 ((b8 : Nat) : Int), .pointer q8] 27), ((φ11 24), .cells #[.int .u64 (((xs11 5).n 0 : Nat) : Int), .pointer ((xs11 5).p 0)] 27), ((φ11 25), .cells #[.int .u64 (((xs11 11).n 0 : Nat) : Int), .pointer ((xs11 11).p 0)] 27), ((φ11 26), .cells #[.int .u64 (((xs11 17).n 0 : Nat) : Int), .pointer ((xs11 17).p 0)] 27), ((φ11 27), .cells #[.int .u64 (((xs11 23).n 0 : Nat) : Int), .pointer ((xs11 23).p 0)] 27), ((φ12 10), .cells #[.int .u64 (((xs12 6).n 0 : Nat) : Int), .pointer ((xs12 6).p 0)] 27)]]), (fun φ20 xs20 => [[default, default, default, default, default, default, default, default, default, default, default, default, default, default, default, default, default, default, default, default, default, default, default, default, default, default, default, default, default, default, default, default, default, default, default, default]]), [], [1, 1, 1, 1, 1, 3, 1, 1, 3, 1, 0, 0, 0, 1, 1, 1, 1, 1, 1, 1, 3, 3, 1, 1, 1, 1, 3, 3, 1, 1, 1, 1, 3, 3, 1, 1]⟩ (fun j => ([MP.any, MP.any, MP.any, MP.any, MP.any, MP.any, MP.any, MP.any, MP.any, MP.any, MP.any, MP.any, MP.any, MP.any, MP.any, MP.any, MP.any, MP.any, MP.any, MP.any, ⟨fun x J => ERep J (joinF 64 e5 e8) (x.n 0) (x.p 0), fun le h => ERep.mono le h⟩, MP.any, MP.any, MP.any, MP.any, MP.any, ⟨fun x J => RE J (E.up (E.base e5) (E.left e5)) (x.n 0), fun le h => RE.mono le h⟩, MP.any, MP.any, MP.any, MP.any, MP.any, ⟨fun x J => RE J (E.up (E.base e8) (E.right e8)) (x.n 0), fun le h => RE.mono le h⟩, MP.any, MP.any, MP.any] : List MP).getD j MP.any) [5, 8, 20, 21, 26, 27, 32, 33] [] [] (fun φ20 xs20 => []) (fun φ20 xs20 => [(62, .int .i64 0), (63, .bool true), (64, .bool true), (65, .agg #[.int .u64 ((b5 : Nat) : Int), .pointer q5]), (66, .agg #[.int .u64 ((b8 : Nat) : Int), .pointer q8]), (67, .bool false), (68, .agg #[.int .u64 (((xs11 5).n 0 : Nat) : Int), .pointer ((xs11 5).p 0)]), (69, .agg #[.int .u64 (((xs11 17).n 0 : Nat) : Int), .pointer ((xs11 17).p 0)]), (70, .bool false), (71, .bool false), (72, undef), (73, undef), (74, undef), (75, .bool false), (76, .bool true), (77, .bool true), (78, .bool true), (79, .agg #[.int .u64 (((xs12 6).n 0 : Nat) : Int), .pointer ((xs12 6).p 0)]), (80, .agg #[.int .u64 ((b5 : Nat) : Int), .pointer q5]), (81, .agg #[.int .u64 ((b8 : Nat) : Int), .pointer q8]), (82, .agg #[.int .u64 (((xs20 20).n 0 : Nat) : Int), .pointer ((xs20 20).p 0)]), (83, .bool true), (84, .bool true), (85, .bool true), (86, .agg #[.int .u64 (((xs11 5).n 0 : Nat) : Int), .pointer ((xs11 5).p 0)]), (87, .pointer (some ⟨k5, 0, none⟩)), (88, .pointer (some ⟨(xs20 26).n 0, 0, none⟩)), (89, .bool true), (90, .bool true), (91, .bool true), (92, .agg #[.int .u64 (((xs11 23).n 0 : Nat) : Int), .pointer ((xs11 23).p 0)]), (93, .pointer (some ⟨k8, 0, none⟩)), (94, .pointer (some ⟨(xs20 32).n 0, 0, none⟩)), (95, .bool true), (96, .bool true), (4, .bool true)]) (fun φ20 xs20 => [((φ6 0), .cells #[.int .u64 ((b5 : Nat) : Int), .pointer q5] 27), ((φ9 0), .cells #[.int .u64 ((b8 : Nat) : Int), .pointer q8] 27), ((φ11 24), .cells #[.int .u64 (((xs11 5).n 0 : Nat) : Int), .pointer ((xs11 5).p 0)] 27), ((φ11 25), .cells #[.int .u64 (((xs11 11).n 0 : Nat) : Int), .pointer ((xs11 11).p 0)] 27), ((φ11 26), .cells #[.int .u64 (((xs11 17).n 0 : Nat) : Int), .pointer ((xs11 17).p 0)] 27), ((φ11 27), .cells #[.int .u64 (((xs11 23).n 0 : Nat) : Int), .pointer ((xs11 23).p 0)] 27), ((φ12 10), .cells #[.int .u64 (((xs12 6).n 0 : Nat) : Int), .pointer ((xs12 6).p 0)] 27)]) s trivial (by kernel_rfl) (by kernel_rfl) (fun _ _ => by kernel_rfl) (fun _ _ => by kernel_rfl) ⟨fun _ _ => by kernel_rfl, fun _ _ => by kernel_rfl, fun _ _ => by kernel_rfl, fun _ _ => by kernel_rfl⟩ (fun _ _ _ => by kernel_rfl) (fun _ _ => by kernel_rfl) (fun _ _ => by kernel_rfl) (fun _ _ => by kernel_rfl) (fun _ _ => by kernel_rfl) (fun _ _ => by kernel_rfl) trivial trivial (by kernel_rfl) ⟨?c20_5, ?c20_8, ?c20_20, ?c20_21, ?c20_26, ?c20_27, ?c20_32, ?c20_33, trivial⟩ ?k20
          case c20_5 =>
            refine kcast (A := ∀ (φ20 : Nat → Nat) (xs20 : Xs) (J5_20 : IM), I12.Le J5_20 → Fun Tryd.prog 29 #[.agg #[.int .u64 ((b5 : Nat) : Int), .pointer q5], .agg #[.int .u64 ((b8 : Nat) : Int), .pointer q8]] J5_20 (fun v J' => ∃ x : UX, v = .bool false ∧ (True))) (by kernel_rfl) ?_
            intro φ20 xs20 J5_20 leJ
            have h5_1 := ERep.mono leJ h5_1
            have h8_1 := ERep.mono leJ h8_1
            exact Fun.mono (leqOE_c h5_1 h8_1 (ok_of h5_0) (ok_of h8_0)) (fun v J' _ h => ⟨UX.d, h.trans (congrArg Value.bool hc19), trivial⟩)
          case c20_8 =>
            refine kcast (A := ∀ (φ20 : Nat → Nat) (xs20 : Xs) (J8_20 : IM), I12.Le J8_20 → (True) → Fun Tryd.prog 29 #[.agg #[.int .u64 (((xs11 5).n 0 : Nat) : Int), .pointer ((xs11 5).p 0)], .agg #[.int .u64 (((xs11 17).n 0 : Nat) : Int), .pointer ((xs11 17).p 0)]] J8_20 (fun v J' => ∃ x : UX, v = .bool false ∧ (True))) (by kernel_rfl) ?_
            intro φ20 xs20 J8_20 leJ
            rintro _
            have h11_5_0 := ERep.mono leJ h11_5_0
            have h11_17_0 := ERep.mono leJ h11_17_0
            exact Fun.mono (leqOE_c h11_5_0 h11_17_0 (ok_half (ok_of h5_0)).1 (ok_half (ok_of h8_0)).1) (fun v J' _ h => ⟨UX.d, h.trans (congrArg Value.bool hc13), trivial⟩)
          case c20_20 =>
            refine kcast (A := ∀ (φ20 : Nat → Nat) (xs20 : Xs) (J20_20 : IM), I12.Le J20_20 → (True) → (True) → Fun Tryd.prog 28 #[.agg #[.int .u64 ((b5 : Nat) : Int), .pointer q5], .agg #[.int .u64 ((b8 : Nat) : Int), .pointer q8]] J20_20 (fun v J' => ∃ x : UX, v = .agg #[.int .u64 ((x.n 0 : Nat) : Int), .pointer (x.p 0)] ∧ (ERep J' (joinF 64 e5 e8) (x.n 0) (x.p 0)))) (by kernel_rfl) ?_
            intro φ20 xs20 J20_20 leJ
            rintro _ _
            have h5_1 := ERep.mono leJ h5_1
            have h8_1 := ERep.mono leJ h8_1
            exact Fun.mono (joinOE_c h5_1 h8_1 (ok_of h5_0) (ok_of h8_0)) (fun v J' _ ⟨y0, y1, hv, g0⟩ => ⟨{ UX.d with n := fun j => y0, p := fun j => y1 }, hv, g0⟩)
          case c20_21 =>
            refine kcast (A := ∀ (φ20 : Nat → Nat) (xs20 : Xs) (J21_20 : IM), I12.Le J21_20 → (True) → (True) → (ERep J21_20 (joinF 64 e5 e8) ((xs20 20).n 0) ((xs20 20).p 0)) → Fun Tryd.prog 30 #[.agg #[.int .u64 (((xs12 6).n 0 : Nat) : Int), .pointer ((xs12 6).p 0)], .agg #[.int .u64 (((xs20 20).n 0 : Nat) : Int), .pointer ((xs20 20).p 0)]] J21_20 (fun v J' => ∃ x : UX, v = .bool true ∧ (True))) (by kernel_rfl) ?_
            intro φ20 xs20 J21_20 leJ
            rintro _ _ h20_20_0
            have h12_6_0 := ERep.mono leJ h12_6_0
            exact Fun.mono (sameH_c (ok_of h5_0) (ok_of h8_0) h12_6_0 h20_20_0) (fun v J' _ h => ⟨UX.d, h, trivial⟩)
          case c20_26 =>
            refine kcast (A := ∀ (φ20 : Nat → Nat) (xs20 : Xs) (J26_20 : IM), I12.Le J26_20 → (True) → (True) → (ERep J26_20 (joinF 64 e5 e8) ((xs20 20).n 0) ((xs20 20).p 0)) → (True) → Fun Tryd.prog 41 #[.pointer (some ⟨k5, 0, none⟩)] J26_20 (fun v J' => ∃ x : UX, v = .pointer (some ⟨x.n 0, 0, none⟩) ∧ (RE J' (E.up (E.base e5) (E.left e5)) (x.n 0)))) (by kernel_rfl) ?_
            intro φ20 xs20 J26_20 leJ
            rintro _ _ h20_20_0 _
            have h5_2 := RE.mono leJ h5_2
            exact Fun.mono (reLeft_c h5_2 (by have := h5_0.2.2; omega)) (fun v J' _ ⟨y0, hv, g0⟩ => ⟨{ UX.d with n := fun j => y0 }, hv, g0⟩)
          case c20_27 =>
            refine kcast (A := ∀ (φ20 : Nat → Nat) (xs20 : Xs) (J27_20 : IM), I12.Le J27_20 → (True) → (True) → (ERep J27_20 (joinF 64 e5 e8) ((xs20 20).n 0) ((xs20 20).p 0)) → (True) → (RE J27_20 (E.up (E.base e5) (E.left e5)) ((xs20 26).n 0)) → Fun Tryd.prog 23 #[.agg #[.int .u64 (((xs11 5).n 0 : Nat) : Int), .pointer ((xs11 5).p 0)], .pointer (some ⟨(xs20 26).n 0, 0, none⟩)] J27_20 (fun v J' => ∃ x : UX, v = .bool true ∧ (True))) (by kernel_rfl) ?_
            intro φ20 xs20 J27_20 leJ
            rintro _ _ h20_20_0 _ h20_26_0
            have hT := Tab.mono leJ hT
            have h11_5_0 := ERep.mono leJ h11_5_0
            exact Fun.mono (likeE_c (E.up (E.base e5) (E.left e5)) hT h11_5_0 h20_26_0 (ok_half (ok_of h5_0)).1.1 (Nat.le_trans (ok_half (ok_of h5_0)).1.2.1 (by decide)) (Nat.lt_of_le_of_lt (ok_half (ok_of h5_0)).1.2.2 (by decide))) (fun v J' _ h => ⟨UX.d, h, trivial⟩)
          case c20_32 =>
            refine kcast (A := ∀ (φ20 : Nat → Nat) (xs20 : Xs) (J32_20 : IM), I12.Le J32_20 → (True) → (True) → (ERep J32_20 (joinF 64 e5 e8) ((xs20 20).n 0) ((xs20 20).p 0)) → (True) → (RE J32_20 (E.up (E.base e5) (E.left e5)) ((xs20 26).n 0)) → (True) → Fun Tryd.prog 42 #[.pointer (some ⟨k8, 0, none⟩)] J32_20 (fun v J' => ∃ x : UX, v = .pointer (some ⟨x.n 0, 0, none⟩) ∧ (RE J' (E.up (E.base e8) (E.right e8)) (x.n 0)))) (by kernel_rfl) ?_
            intro φ20 xs20 J32_20 leJ
            rintro _ _ h20_20_0 _ h20_26_0 _
            have h8_2 := RE.mono leJ h8_2
            exact Fun.mono (reRight_c h8_2 (by have := h8_0.2.2; omega)) (fun v J' _ ⟨y0, hv, g0⟩ => ⟨{ UX.d with n := fun j => y0 }, hv, g0⟩)
          case c20_33 =>
            refine kcast (A := ∀ (φ20 : Nat → Nat) (xs20 : Xs) (J33_20 : IM), I12.Le J33_20 → (True) → (True) → (ERep J33_20 (joinF 64 e5 e8) ((xs20 20).n 0) ((xs20 20).p 0)) → (True) → (RE J33_20 (E.up (E.base e5) (E.left e5)) ((xs20 26).n 0)) → (True) → (RE J33_20 (E.up (E.base e8) (E.right e8)) ((xs20 32).n 0)) → Fun Tryd.prog 23 #[.agg #[.int .u64 (((xs11 23).n 0 : Nat) : Int), .pointer ((xs11 23).p 0)], .pointer (some ⟨(xs20 32).n 0, 0, none⟩)] J33_20 (fun v J' => ∃ x : UX, v = .bool true ∧ (True))) (by kernel_rfl) ?_
            intro φ20 xs20 J33_20 leJ
            rintro _ _ h20_20_0 _ h20_26_0 _ h20_32_0
            have hT := Tab.mono leJ hT
            have h11_23_0 := ERep.mono leJ h11_23_0
            exact Fun.mono (likeE_c (E.up (E.base e8) (E.right e8)) hT h11_23_0 h20_32_0 (ok_half (ok_of h8_0)).2.1 (Nat.le_trans (ok_half (ok_of h8_0)).2.2.1 (by decide)) (Nat.lt_of_le_of_lt (ok_half (ok_of h8_0)).2.2.2 (by decide))) (fun v J' _ h => ⟨UX.d, h, trivial⟩)
          case k20 =>
            rintro φ20 xs20 I20 w20 le20 s _ _ h20_20_0 _ h20_26_0 _ h20_32_0 _
            replace hT := Tab.mono le20 hT
            replace hla := BSl.mono le20 hla
            replace hlb := BSl.mono le20 hlb
            replace h5_1 := ERep.mono le20 h5_1
            replace h5_2 := RE.mono le20 h5_2
            replace h8_1 := ERep.mono le20 h8_1
            replace h8_2 := RE.mono le20 h8_2
            replace h11_2_0 := ERep.mono le20 h11_2_0
            replace h11_5_0 := ERep.mono le20 h11_5_0
            replace h11_8_0 := ERep.mono le20 h11_8_0
            replace h11_11_0 := ERep.mono le20 h11_11_0
            replace h11_14_0 := ERep.mono le20 h11_14_0
            replace h11_17_0 := ERep.mono le20 h11_17_0
            replace h11_20_0 := ERep.mono le20 h11_20_0
            replace h11_23_0 := ERep.mono le20 h11_23_0
            replace h12_2_0 := ERep.mono le20 h12_2_0
            replace h12_5_0 := ERep.mono le20 h12_5_0
            replace h12_6_0 := ERep.mono le20 h12_6_0
            refine wp_ret ?_
            refine ret_rule (C := []) [((φ6 0), .cells #[.int .u64 ((b5 : Nat) : Int), .pointer q5] 27), ((φ9 0), .cells #[.int .u64 ((b8 : Nat) : Int), .pointer q8] 27), ((φ11 24), .cells #[.int .u64 (((xs11 5).n 0 : Nat) : Int), .pointer ((xs11 5).p 0)] 27), ((φ11 25), .cells #[.int .u64 (((xs11 11).n 0 : Nat) : Int), .pointer ((xs11 11).p 0)] 27), ((φ11 26), .cells #[.int .u64 (((xs11 17).n 0 : Nat) : Int), .pointer ((xs11 17).p 0)] 27), ((φ11 27), .cells #[.int .u64 (((xs11 23).n 0 : Nat) : Int), .pointer ((xs11 23).p 0)] 27), ((φ12 10), .cells #[.int .u64 (((xs12 6).n 0 : Nat) : Int), .pointer ((xs12 6).p 0)] 27)] [] (.bool true) [] [] s trivial (by kernel_rfl) ?_
            exact ⟨_, _, _, rfl, s, rfl⟩

end Go.Proofs.YtgdickihjaomjaaDoor
