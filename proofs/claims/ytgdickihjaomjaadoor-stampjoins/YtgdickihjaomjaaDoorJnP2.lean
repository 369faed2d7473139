/- The program's stamps: Fill, Grow, Tick, Fork, Join. -/
import Derived.Test.YtgdickihjaomjaaDoorJnP1
set_option linter.all false
set_option maxRecDepth 100000
namespace Go.Proofs.YtgdickihjaomjaaDoor
open Go.RowKit Go.Sep

theorem fill_c : ∀ (e : E) (i : T) {I : IM} {ib : Bool} {ip : Option Addr} {eb : Nat} {ep : Option Addr}, e.top ≤ 1048576 → e.depth ≤ 16 → TRep I i ib ip → ERep I e eb ep → Fun Tryd.prog 53 #[idv ib ip, evv eb ep] I (fun v J => ∃ b p, v = evv b p ∧ ERep J (fillE i e) b p)
  | .leaf n, i, _, _, _, _, _, ht, hd, hi, he => by
    have := fill_step (FL := .leaf 0) (FR := .leaf 0) hi he ht hd ⟨Nat.zero_le _, Nat.zero_le _⟩ ⟨Nat.zero_le _, Nat.zero_le _⟩ (fun h => by cases h) (fun h => by cases h) (fun h => by cases h)
    refine this.mono fun v J _ h => ?_
    obtain ⟨b, p, hv, hr⟩ := h
    refine ⟨b, p, hv, ?_⟩
    cases hz : i.isZero
    · simpa [hz, E.isLeaf, fillE] using hr
    · simpa [hz, E.isLeaf, fillE] using hr
  | .node n l r, i, _, _, _, _, _, ht, hd, hi, he => by
    have e1 : n + max l.top r.top ≤ 1048576 := ht
    have e2 : 1 + max l.depth r.depth ≤ 16 := hd
    have := fill_step (e := .node n l r) (FL := fillE i.left l) (FR := fillE i.right r) hi he ht hd (fill_bounds l i.left) (fill_bounds r i.right) (fun _ => ⟨show l.depth < 16 by omega, show r.depth < 16 by omega, e1⟩)
      (fun _ {J} {ib} {ip} {eb} {ep} k1 k2 => fill_c l i.left (by omega) (by omega) k1 k2) (fun _ {J} {ib} {ip} {eb} {ep} k1 k2 => fill_c r i.right (by omega) (by omega) k1 k2)
    refine this.mono fun v J _ h => ?_
    obtain ⟨b, p, hv, hr⟩ := h
    refine ⟨b, p, hv, ?_⟩
    unfold fillE
    exact hr

set_option maxHeartbeats 1000000 in
theorem price_step {I : IM} {i : T} {e : E} {ib : Bool} {ip : Option Addr} {eb : Nat} {ep : Option Addr} (hi : TRep I i ib ip) (he : ERep I e eb ep) {cl cr : Nat} (hcl : cl ≤ 1000000000) (hcr : cr ≤ 1000000000) (ihl : i.isZero = false → (i.isOne && e.isLeaf) = false → ∀ {J : IM} {ib : Bool} {ip : Option Addr} {eb : Nat} {ep : Option Addr}, TRep J i.left ib ip → ERep J e.left eb ep → Fun Tryd.prog 96 #[idv ib ip, evv eb ep] J (fun v J => v = .int .i64 ((cl : Nat) : Int))) (ihr : i.isZero = false → (i.isOne && e.isLeaf) = false → ∀ {J : IM} {ib : Bool} {ip : Option Addr} {eb : Nat} {ep : Option Addr}, TRep J i.right ib ip → ERep J e.right eb ep → Fun Tryd.prog 96 #[idv ib ip, evv eb ep] J (fun v J => v = .int .i64 ((cr : Nat) : Int))) : Fun Tryd.prog 96 #[idv ib ip, evv eb ep] I (fun v J => v = .int .i64 ((if i.isZero = true then 1048576 else if (i.isOne && e.isLeaf) = true then 0 else if e.isLeaf = true then 1 + min cl cr + 1000 else 1 + min cl cr : Nat) : Int)) := by
  refine enter_rule 28 [(0, .agg #[.bool ib, .pointer ip]), (1, .agg #[.int .u64 ((eb : Nat) : Int), .pointer ep])] Tryd.func96 rfl (by kernel_rfl) ?_
  intro w s
  refine wp_seq ?_
  refine region_rule ?_
  refine ops_rule (C := []) [] [] 3 [] 2 (fun φ1 => [(4, .int .i64 0), (3, .pointer (some ⟨(φ1 1), 0, none⟩)), (2, .pointer (some ⟨(φ1 0), 0, none⟩))]) (fun φ1 => [((φ1 0), .cells #[.bool ib, .pointer ip] 62), ((φ1 1), .cells #[.int .u64 ((eb : Nat) : Int), .pointer ep] 27)]) (fun φ1 => []) s trivial (fun φ1 => by kernel_rfl) ?_
  intro φ1 w1 s
  refine ops_done (by kernel_rfl) ?_
  refine wp_seq ?_
  refine wp_seq ?_
  refine region_rule ?_
  refine ops_rule (C := []) [((φ1 0), .cells #[.bool ib, .pointer ip] 62), ((φ1 1), .cells #[.int .u64 ((eb : Nat) : Int), .pointer ep] 27)] [] 1 [.o 0, .o 0] 0 (fun φ2 => [(6, .agg #[.bool ib, .pointer ip])]) (fun φ2 => [((φ1 0), .cells #[.bool ib, .pointer ip] 62), ((φ1 1), .cells #[.int .u64 ((eb : Nat) : Int), .pointer ep] 27)]) (fun φ2 => [(φ1 0), (φ1 0)]) s trivial (fun φ2 => by kernel_rfl) ?_
  intro φ2 w2 s
  refine call_rule (some 7) s (isZero_c hi) (by kernel_rfl) ?_
  intro v3 I3 w3 le3 h3 s
  replace hi := TRep.mono le3 hi
  replace he := ERep.mono le3 he
  obtain rfl := h3
  refine ops_done (by kernel_rfl) ?_
  rcases Bool.eq_false_or_eq_true (T.isZero i) with hc4 | hc4
  ·
    rw [hc4]
    refine cond_true_rule (b := true) (by kernel_rfl) rfl ?_
    refine wp_seq ?_
    refine region_rule ?_
    refine ops_rule (C := []) [((φ1 0), .cells #[.bool ib, .pointer ip] 62), ((φ1 1), .cells #[.int .u64 ((eb : Nat) : Int), .pointer ep] 27)] [] 1 [] 0 (fun φ5 => [(4, .int .i64 1048576)]) (fun φ5 => [((φ1 0), .cells #[.bool ib, .pointer ip] 62), ((φ1 1), .cells #[.int .u64 ((eb : Nat) : Int), .pointer ep] 27)]) (fun φ5 => []) s trivial (fun φ5 => by kernel_rfl) ?_
    intro φ5 w5 s
    refine ops_done (by kernel_rfl) ?_
    refine wp_ret ?_
    refine ret_rule (C := []) [((φ1 0), .cells #[.bool ib, .pointer ip] 62), ((φ1 1), .cells #[.int .u64 ((eb : Nat) : Int), .pointer ep] 27)] [] (.int .i64 1048576) [] [] s trivial (by kernel_rfl) ?_
    exact ⟨_, _, _, rfl, s, (by simp [hc4])⟩
  ·
    rw [hc4]
    refine cond_false_rule (b := false) (by kernel_rfl) rfl ?_
    refine wp_skip ?_
    refine wp_seq ?_
    refine wp_seq ?_
    refine region_rule ?_
    refine ops_rule (C := []) [((φ1 0), .cells #[.bool ib, .pointer ip] 62), ((φ1 1), .cells #[.int .u64 ((eb : Nat) : Int), .pointer ep] 27)] [] 2 [.o 0, .o 0, .o 1, .o 1] 0 (fun φ6 => [(9, .agg #[.int .u64 ((eb : Nat) : Int), .pointer ep]), (8, .agg #[.bool ib, .pointer ip])]) (fun φ6 => [((φ1 0), .cells #[.bool ib, .pointer ip] 62), ((φ1 1), .cells #[.int .u64 ((eb : Nat) : Int), .pointer ep] 27)]) (fun φ6 => [(φ1 0), (φ1 0), (φ1 1), (φ1 1)]) s trivial (fun φ6 => by kernel_rfl) ?_
    intro φ6 w6 s
    refine call_rule (some 10) s (atPlace_c hi he) (by kernel_rfl) ?_
    intro v7 I7 w7 le7 h7 s
    replace hi := TRep.mono le7 hi
    replace he := ERep.mono le7 he
    obtain rfl := h7
    refine ops_done (by kernel_rfl) ?_
    rcases Bool.eq_false_or_eq_true ((T.isOne i && E.isLeaf e)) with hc8 | hc8
    ·
      rw [hc8]
      refine cond_true_rule (b := true) (by kernel_rfl) rfl ?_
      refine wp_seq ?_
      refine region_rule ?_
      refine ops_rule (C := []) [((φ1 0), .cells #[.bool ib, .pointer ip] 62), ((φ1 1), .cells #[.int .u64 ((eb : Nat) : Int), .pointer ep] 27)] [] 1 [] 0 (fun φ9 => [(4, .int .i64 0)]) (fun φ9 => [((φ1 0), .cells #[.bool ib, .pointer ip] 62), ((φ1 1), .cells #[.int .u64 ((eb : Nat) : Int), .pointer ep] 27)]) (fun φ9 => []) s trivial (fun φ9 => by kernel_rfl) ?_
      intro φ9 w9 s
      refine ops_done (by kernel_rfl) ?_
      refine wp_ret ?_
      refine ret_rule (C := []) [((φ1 0), .cells #[.bool ib, .pointer ip] 62), ((φ1 1), .cells #[.int .u64 ((eb : Nat) : Int), .pointer ep] 27)] [] (.int .i64 0) [] [] s trivial (by kernel_rfl) ?_
      exact ⟨_, _, _, rfl, s, (by simp [hc4, hc8])⟩
    ·
      rw [hc8]
      refine cond_false_rule (b := false) (by kernel_rfl) rfl ?_
      refine wp_skip ?_
      refine wp_seq ?_
      refine draw_rule (C := []) ⟨(fun φ10 xs10 => [.look 0 [.o 0, .o 0] [(φ1 0), (φ1 0)], .call 92 #[.agg #[.bool ib, .pointer ip]], .look 0 [.o 1, .o 1] [(φ1 1), (φ1 1)], .call 39 #[.agg #[.int .u64 ((eb : Nat) : Int), .pointer ep]], .call 96 #[.agg #[.bool ((xs10 1).b 0), .pointer ((xs10 1).p 0)], .agg #[.int .u64 (((xs10 3).n 0 : Nat) : Int), .pointer ((xs10 3).p 0)]], .look 0 [.o 0, .o 0] [(φ1 0), (φ1 0)], .call 93 #[.agg #[.bool ib, .pointer ip]], .look 0 [.o 1, .o 1] [(φ1 1), (φ1 1)], .call 40 #[.agg #[.int .u64 ((eb : Nat) : Int), .pointer ep]], .call 96 #[.agg #[.bool ((xs10 6).b 0), .pointer ((xs10 6).p 0)], .agg #[.int .u64 (((xs10 8).n 0 : Nat) : Int), .pointer ((xs10 8).p 0)]], .sub 0 [] [] (.int .i64 (if ((cr : Nat) : Int) < ((cl : Nat) : Int) then ((cr : Nat) : Int) else ((cl : Nat) : Int))), .sub 0 [] [] (.int .i64 (IntKind.wrap .i64 (((1 : Nat) : Int) + ((min cl cr : Nat) : Int)))), .look 0 [] []]), (fun φ10 xs10 => [.agg #[.bool ib, .pointer ip], .agg #[.bool ((xs10 1).b 0), .pointer ((xs10 1).p 0)], .agg #[.int .u64 ((eb : Nat) : Int), .pointer ep], .agg #[.int .u64 (((xs10 3).n 0 : Nat) : Int), .pointer ((xs10 3).p 0)], .int .i64 ((cl : Nat) : Int), .agg #[.bool ib, .pointer ip], .agg #[.bool ((xs10 6).b 0), .pointer ((xs10 6).p 0)], .agg #[.int .u64 ((eb : Nat) : Int), .pointer ep], .agg #[.int .u64 (((xs10 8).n 0 : Nat) : Int), .pointer ((xs10 8).p 0)], .int .i64 ((cr : Nat) : Int), .int .i64 ((min cl cr : Nat) : Int), .int .i64 ((1 + (min cl cr) : Nat) : Int), .int .i64 ((1 + (min cl cr) : Nat) : Int)]), (fun φ10 xs10 => [[((φ1 0), .cells #[.bool ib, .pointer ip] 62), ((φ1 1), .cells #[.int .u64 ((eb : Nat) : Int), .pointer ep] 27)]]), (fun φ10 xs10 => [[default, default, default, default, default, default, default, default, default, default, default, default, default]]), [], [1, 3, 1, 3, 3, 1, 3, 1, 3, 3, 5, 5, 1]⟩ (fun j => ([MP.any, ⟨fun x J => TRep J (T.left i) (x.b 0) (x.p 0), fun le h => TRep.mono le h⟩, MP.any, ⟨fun x J => ERep J (E.left e) (x.n 0) (x.p 0), fun le h => ERep.mono le h⟩, MP.any, MP.any, ⟨fun x J => TRep J (T.right i) (x.b 0) (x.p 0), fun le h => TRep.mono le h⟩, MP.any, ⟨fun x J => ERep J (E.right e) (x.n 0) (x.p 0), fun le h => ERep.mono le h⟩, MP.any, MP.any, MP.any, MP.any] : List MP).getD j MP.any) [1, 3, 4, 6, 8, 9] [10, 11] [] (fun φ10 xs10 => []) (fun φ10 xs10 => [(11, .agg #[.bool ib, .pointer ip]), (12, .agg #[.bool ((xs10 1).b 0), .pointer ((xs10 1).p 0)]), (13, .agg #[.int .u64 ((eb : Nat) : Int), .pointer ep]), (14, .agg #[.int .u64 (((xs10 3).n 0 : Nat) : Int), .pointer ((xs10 3).p 0)]), (15, .int .i64 ((cl : Nat) : Int)), (16, .agg #[.bool ib, .pointer ip]), (17, .agg #[.bool ((xs10 6).b 0), .pointer ((xs10 6).p 0)]), (18, .agg #[.int .u64 ((eb : Nat) : Int), .pointer ep]), (19, .agg #[.int .u64 (((xs10 8).n 0 : Nat) : Int), .pointer ((xs10 8).p 0)]), (20, .int .i64 ((cr : Nat) : Int)), (21, .int .i64 ((min cl cr : Nat) : Int)), (22, .int .i64 ((1 + (min cl cr) : Nat) : Int)), (5, .int .i64 ((1 + (min cl cr) : Nat) : Int))]) (fun φ10 xs10 => [((φ1 0), .cells #[.bool ib, .pointer ip] 62), ((φ1 1), .cells #[.int .u64 ((eb : Nat) : Int), .pointer ep] 27)]) s trivial (by kernel_rfl) (by kernel_rfl) (fun _ _ => by kernel_rfl) (fun _ _ => by kernel_rfl) ⟨fun _ _ => by kernel_rfl, fun _ _ => by kernel_rfl, fun _ _ => by kernel_rfl, fun _ _ => by kernel_rfl⟩ (fun _ _ _ => by kernel_rfl) (fun _ _ => by kernel_rfl) (fun _ _ => by kernel_rfl) (fun _ _ => by kernel_rfl) (fun _ _ => by kernel_rfl) (fun _ _ => by kernel_rfl) ⟨kcast (A := ∀ (φ10 : Nat → Nat) (xs10 : Xs), (.int .i64 (if ((cr : Nat) : Int) < ((cl : Nat) : Int) then ((cr : Nat) : Int) else ((cl : Nat) : Int)) : Value) = .int .i64 ((min cl cr : Nat) : Int)) (by kernel_rfl) (fun φ10 xs10 => congrArg (Value.int .i64) ((nat_min (a := cl) (b := cr)))), ⟨kcast (A := ∀ (φ10 : Nat → Nat) (xs10 : Xs), (.int .i64 (IntKind.wrap .i64 (((1 : Nat) : Int) + ((min cl cr : Nat) : Int))) : Value) = .int .i64 ((1 + (min cl cr) : Nat) : Int)) (by kernel_rfl) (fun φ10 xs10 => congrArg (Value.int .i64) ((nat_addI (a := 1) (b := (min cl cr)) (by omega)))), trivial⟩⟩ trivial ⟨?c10_1, ?c10_3, ?c10_4, ?c10_6, ?c10_8, ?c10_9, trivial⟩ ?k10
      case c10_1 =>
        refine kcast (A := ∀ (φ10 : Nat → Nat) (xs10 : Xs) (J1_10 : IM), I7.Le J1_10 → Fun Tryd.prog 92 #[.agg #[.bool ib, .pointer ip]] J1_10 (fun v J' => ∃ x : UX, v = .agg #[.bool (x.b 0), .pointer (x.p 0)] ∧ (TRep J' (T.left i) (x.b 0) (x.p 0)))) (by kernel_rfl) ?_
        intro φ10 xs10 J1_10 leJ
        have hi := TRep.mono leJ hi
        exact Fun.mono (tleft_c hi) (fun v J' _ ⟨y0, y1, hv, g0⟩ => ⟨{ UX.d with b := fun j => y0, p := fun j => y1 }, hv, g0⟩)
      case c10_3 =>
        refine kcast (A := ∀ (φ10 : Nat → Nat) (xs10 : Xs) (J3_10 : IM), I7.Le J3_10 → (TRep J3_10 (T.left i) ((xs10 1).b 0) ((xs10 1).p 0)) → Fun Tryd.prog 39 #[.agg #[.int .u64 ((eb : Nat) : Int), .pointer ep]] J3_10 (fun v J' => ∃ x : UX, v = .agg #[.int .u64 ((x.n 0 : Nat) : Int), .pointer (x.p 0)] ∧ (ERep J' (E.left e) (x.n 0) (x.p 0)))) (by kernel_rfl) ?_
        intro φ10 xs10 J3_10 leJ
        rintro h10_1_0
        have he := ERep.mono leJ he
        exact Fun.mono (left_c he) (fun v J' _ ⟨y0, y1, hv, g0⟩ => ⟨{ UX.d with n := fun j => y0, p := fun j => y1 }, hv, g0⟩)
      case c10_4 =>
        refine kcast (A := ∀ (φ10 : Nat → Nat) (xs10 : Xs) (J4_10 : IM), I7.Le J4_10 → (TRep J4_10 (T.left i) ((xs10 1).b 0) ((xs10 1).p 0)) → (ERep J4_10 (E.left e) ((xs10 3).n 0) ((xs10 3).p 0)) → Fun Tryd.prog 96 #[.agg #[.bool ((xs10 1).b 0), .pointer ((xs10 1).p 0)], .agg #[.int .u64 (((xs10 3).n 0 : Nat) : Int), .pointer ((xs10 3).p 0)]] J4_10 (fun v J' => ∃ x : UX, v = .int .i64 ((cl : Nat) : Int) ∧ (True))) (by kernel_rfl) ?_
        intro φ10 xs10 J4_10 leJ
        rintro h10_1_0 h10_3_0
        exact Fun.mono (ihl hc4 hc8 h10_1_0 h10_3_0) (fun v J' _ h => ⟨UX.d, h, trivial⟩)
      case c10_6 =>
        refine kcast (A := ∀ (φ10 : Nat → Nat) (xs10 : Xs) (J6_10 : IM), I7.Le J6_10 → (TRep J6_10 (T.left i) ((xs10 1).b 0) ((xs10 1).p 0)) → (ERep J6_10 (E.left e) ((xs10 3).n 0) ((xs10 3).p 0)) → (True) → Fun Tryd.prog 93 #[.agg #[.bool ib, .pointer ip]] J6_10 (fun v J' => ∃ x : UX, v = .agg #[.bool (x.b 0), .pointer (x.p 0)] ∧ (TRep J' (T.right i) (x.b 0) (x.p 0)))) (by kernel_rfl) ?_
        intro φ10 xs10 J6_10 leJ
        rintro h10_1_0 h10_3_0 _
        have hi := TRep.mono leJ hi
        exact Fun.mono (tright_c hi) (fun v J' _ ⟨y0, y1, hv, g0⟩ => ⟨{ UX.d with b := fun j => y0, p := fun j => y1 }, hv, g0⟩)
      case c10_8 =>
        refine kcast (A := ∀ (φ10 : Nat → Nat) (xs10 : Xs) (J8_10 : IM), I7.Le J8_10 → (TRep J8_10 (T.left i) ((xs10 1).b 0) ((xs10 1).p 0)) → (ERep J8_10 (E.left e) ((xs10 3).n 0) ((xs10 3).p 0)) → (True) → (TRep J8_10 (T.right i) ((xs10 6).b 0) ((xs10 6).p 0)) → Fun Tryd.prog 40 #[.agg #[.int .u64 ((eb : Nat) : Int), .pointer ep]] J8_10 (fun v J' => ∃ x : UX, v = .agg #[.int .u64 ((x.n 0 : Nat) : Int), .pointer (x.p 0)] ∧ (ERep J' (E.right e) (x.n 0) (x.p 0)))) (by kernel_rfl) ?_
        intro φ10 xs10 J8_10 leJ
        rintro h10_1_0 h10_3_0 _ h10_6_0
        have he := ERep.mono leJ he
        exact Fun.mono (right_c he) (fun v J' _ ⟨y0, y1, hv, g0⟩ => ⟨{ UX.d with n := fun j => y0, p := fun j => y1 }, hv, g0⟩)
      case c10_9 =>
        refine kcast (A := ∀ (φ10 : Nat → Nat) (xs10 : Xs) (J9_10 : IM), I7.Le J9_10 → (TRep J9_10 (T.left i) ((xs10 1).b 0) ((xs10 1).p 0)) → (ERep J9_10 (E.left e) ((xs10 3).n 0) ((xs10 3).p 0)) → (True) → (TRep J9_10 (T.right i) ((xs10 6).b 0) ((xs10 6).p 0)) → (ERep J9_10 (E.right e) ((xs10 8).n 0) ((xs10 8).p 0)) → Fun Tryd.prog 96 #[.agg #[.bool ((xs10 6).b 0), .pointer ((xs10 6).p 0)], .agg #[.int .u64 (((xs10 8).n 0 : Nat) : Int), .pointer ((xs10 8).p 0)]] J9_10 (fun v J' => ∃ x : UX, v = .int .i64 ((cr : Nat) : Int) ∧ (True))) (by kernel_rfl) ?_
        intro φ10 xs10 J9_10 leJ
        rintro h10_1_0 h10_3_0 _ h10_6_0 h10_8_0
        exact Fun.mono (ihr hc4 hc8 h10_6_0 h10_8_0) (fun v J' _ h => ⟨UX.d, h, trivial⟩)
      case k10 =>
        rintro φ10 xs10 I10 w10 le10 s h10_1_0 h10_3_0 _ h10_6_0 h10_8_0 _
        replace hi := TRep.mono le10 hi
        replace he := ERep.mono le10 he
        refine wp_seq ?_
        refine wp_seq ?_
        refine region_rule ?_
        refine ops_rule (C := []) [((φ1 0), .cells #[.bool ib, .pointer ip] 62), ((φ1 1), .cells #[.int .u64 ((eb : Nat) : Int), .pointer ep] 27)] [] 1 [.o 1, .o 1] 0 (fun φ11 => [(23, .agg #[.int .u64 ((eb : Nat) : Int), .pointer ep])]) (fun φ11 => [((φ1 0), .cells #[.bool ib, .pointer ip] 62), ((φ1 1), .cells #[.int .u64 ((eb : Nat) : Int), .pointer ep] 27)]) (fun φ11 => [(φ1 1), (φ1 1)]) s trivial (fun φ11 => by kernel_rfl) ?_
        intro φ11 w11 s
        refine call_rule (some 24) s (isLeaf_c he) (by kernel_rfl) ?_
        intro v12 I12 w12 le12 h12 s
        replace hi := TRep.mono le12 hi
        replace he := ERep.mono le12 he
        replace h10_1_0 := TRep.mono le12 h10_1_0
        replace h10_3_0 := ERep.mono le12 h10_3_0
        replace h10_6_0 := TRep.mono le12 h10_6_0
        replace h10_8_0 := ERep.mono le12 h10_8_0
        obtain rfl := h12
        refine ops_done (by kernel_rfl) ?_
        rcases Bool.eq_false_or_eq_true (E.isLeaf e) with hc13 | hc13
        ·
          rw [hc13]
          refine cond_true_rule (b := true) (by kernel_rfl) rfl ?_
          refine region_rule ?_
          refine ops_rule (C := []) [((φ1 0), .cells #[.bool ib, .pointer ip] 62), ((φ1 1), .cells #[.int .u64 ((eb : Nat) : Int), .pointer ep] 27)] [] 3 [] 0 (fun φ14 => [(5, .int .i64 (IntKind.wrap .i64 (((1 + (min cl cr) : Nat) : Int) + ((1000 : Nat) : Int)))), (26, .int .i64 (IntKind.wrap .i64 (((1 + (min cl cr) : Nat) : Int) + ((1000 : Nat) : Int)))), (25, .int .i64 ((1 + (min cl cr) : Nat) : Int))]) (fun φ14 => [((φ1 0), .cells #[.bool ib, .pointer ip] 62), ((φ1 1), .cells #[.int .u64 ((eb : Nat) : Int), .pointer ep] 27)]) (fun φ14 => []) s trivial (fun φ14 => by kernel_rfl) ?_
          intro φ14 w14 s
          rw [nat_addI (a := (1 + (min cl cr))) (b := 1000) (by omega)]
          refine ops_done (by kernel_rfl) ?_
          refine wp_seq ?_
          refine region_rule ?_
          refine ops_rule (C := []) [((φ1 0), .cells #[.bool ib, .pointer ip] 62), ((φ1 1), .cells #[.int .u64 ((eb : Nat) : Int), .pointer ep] 27)] [] 2 [] 0 (fun φ15 => [(4, .int .i64 (((1 + (min cl cr)) + 1000 : Nat) : Int)), (27, .int .i64 (((1 + (min cl cr)) + 1000 : Nat) : Int))]) (fun φ15 => [((φ1 0), .cells #[.bool ib, .pointer ip] 62), ((φ1 1), .cells #[.int .u64 ((eb : Nat) : Int), .pointer ep] 27)]) (fun φ15 => []) s trivial (fun φ15 => by kernel_rfl) ?_
          intro φ15 w15 s
          refine ops_done (by kernel_rfl) ?_
          refine wp_ret ?_
          refine ret_rule (C := []) [((φ1 0), .cells #[.bool ib, .pointer ip] 62), ((φ1 1), .cells #[.int .u64 ((eb : Nat) : Int), .pointer ep] 27)] [] (.int .i64 (((1 + (min cl cr)) + 1000 : Nat) : Int)) [] [] s trivial (by kernel_rfl) ?_
          exact ⟨_, _, _, rfl, s, (by simp [hc4, hc8, hc13])⟩
        ·
          rw [hc13]
          refine cond_false_rule (b := false) (by kernel_rfl) rfl ?_
          refine wp_skip ?_
          refine wp_seq ?_
          refine region_rule ?_
          refine ops_rule (C := []) [((φ1 0), .cells #[.bool ib, .pointer ip] 62), ((φ1 1), .cells #[.int .u64 ((eb : Nat) : Int), .pointer ep] 27)] [] 2 [] 0 (fun φ16 => [(4, .int .i64 ((1 + (min cl cr) : Nat) : Int)), (27, .int .i64 ((1 + (min cl cr) : Nat) : Int))]) (fun φ16 => [((φ1 0), .cells #[.bool ib, .pointer ip] 62), ((φ1 1), .cells #[.int .u64 ((eb : Nat) : Int), .pointer ep] 27)]) (fun φ16 => []) s trivial (fun φ16 => by kernel_rfl) ?_
          intro φ16 w16 s
          refine ops_done (by kernel_rfl) ?_
          refine wp_ret ?_
          refine ret_rule (C := []) [((φ1 0), .cells #[.bool ib, .pointer ip] 62), ((φ1 1), .cells #[.int .u64 ((eb : Nat) : Int), .pointer ep] 27)] [] (.int .i64 ((1 + (min cl cr) : Nat) : Int)) [] [] s trivial (by kernel_rfl) ?_
          exact ⟨_, _, _, rfl, s, (by simp [hc4, hc8, hc13])⟩

theorem T.half_depth (t : T) : t.left.depth ≤ t.depth ∧ t.right.depth ≤ t.depth := by
  cases t with
  | zero => exact ⟨Nat.le_refl _, Nat.le_refl _⟩
  | one => exact ⟨Nat.le_refl _, Nat.le_refl _⟩
  | node l r => exact ⟨show l.depth ≤ 1 + max l.depth r.depth by omega, show r.depth ≤ 1 + max l.depth r.depth by omega⟩
theorem go_on {i : T} {e : E} {n : Nat} (hz : i.isZero = false) (ha : (i.isOne && e.isLeaf) = false) (h : i.depth + e.depth < n + 1) : i.left.depth + e.left.depth < n ∧ i.right.depth + e.right.depth < n := by
  have a := T.half_depth i
  have b := E.half_le e
  cases i with
  | zero => cases hz
  | one =>
    cases e with
    | leaf k => cases ha
    | node k l r =>
      have : 0 + (1 + max l.depth r.depth) < n + 1 := h
      exact ⟨show 0 + l.depth < n by omega, show 0 + r.depth < n by omega⟩
  | node l r =>
    have : 1 + max l.depth r.depth + e.depth < n + 1 := h
    exact ⟨show l.depth + e.left.depth < n by omega, show r.depth + e.right.depth < n by omega⟩
theorem priceF_succ (n : Nat) (i : T) (e : E) : priceF (n + 1) i e = (if i.isZero = true then 1048576 else if i.isOne = true ∧ e.isLeaf = true then 0 else
      if e.isLeaf = true then 1 + min (priceF n i.left e.left) (priceF n i.right e.right) + 1000 else 1 + min (priceF n i.left e.left) (priceF n i.right e.right)) := rfl
theorem growF_succ (n : Nat) (i : T) (e : E) : growF (n + 1) i e = (if i.isOne = true ∧ e.isLeaf = true then leafR (e.base + 1) else
      if priceF n i.left e.left < priceF n i.right e.right then
        (if (growF n i.left e.left).2 ≠ 0 then (.leaf 0, (growF n i.left e.left).2) else nodeR e.base (growF n i.left e.left).1 e.right)
      else (if (growF n i.right e.right).2 ≠ 0 then (.leaf 0, (growF n i.right e.right).2) else nodeR e.base e.left (growF n i.right e.right).1)) := rfl
theorem price_c : ∀ (n : Nat) {I : IM} {i : T} {e : E} {ib : Bool} {ip : Option Addr} {eb : Nat} {ep : Option Addr}, n ≤ 1000 → i.depth + e.depth < n → TRep I i ib ip → ERep I e eb ep → Fun Tryd.prog 96 #[idv ib ip, evv eb ep] I (fun v J => v = .int .i64 ((priceF n i e : Nat) : Int))
  | 0, _, _, _, _, _, _, _, _, h, _, _ => by omega
  | n + 1, I, i, e, _, _, _, _, hn, h, hi, he => by
    have p1 := price_le n i.left e.left
    have p2 := price_le n i.right e.right
    have := price_step (cl := priceF n i.left e.left) (cr := priceF n i.right e.right) hi he (by omega) (by omega) (fun hz ha {J} {ib} {ip} {eb} {ep} k1 k2 => price_c n (by omega) (go_on hz ha h).1 k1 k2) (fun hz ha {J} {ib} {ip} {eb} {ep} k1 k2 => price_c n (by omega) (go_on hz ha h).2 k1 k2)
    refine this.mono fun v J _ hv => ?_
    rw [hv, priceF_succ]
    cases hz : i.isZero <;> cases ha : i.isOne <;> cases hl : e.isLeaf <;> simp
set_option maxHeartbeats 2000000 in
theorem grow_step {I : IM} {i : T} {e : E} {ib : Bool} {ip : Option Addr} {eb : Nat} {ep : Option Addr} (hi : TRep I i ib ip) (he : ERep I e eb ep) {Gl Gr : E × Nat} {cl cr : Nat} (ht : e.top ≤ 1048576) (hd : e.depth ≤ 16) (hGl : Gl.1.top ≤ 1048576 ∧ Gl.1.depth ≤ 16 ∧ Gl.2 ≤ 4) (hGr : Gr.1.top ≤ 1048576 ∧ Gr.1.depth ≤ 16 ∧ Gr.2 ≤ 4) (ihl : (i.isOne && e.isLeaf) = false → decide (cl < cr) = true → ∀ {J : IM} {ib : Bool} {ip : Option Addr} {eb : Nat} {ep : Option Addr}, TRep J i.left ib ip → ERep J e.left eb ep → Fun Tryd.prog 95 #[idv ib ip, evv eb ep] J (fun v J => ∃ b p, v = .tuple #[evv b p, .int .i64 ((Gl.2 : Nat) : Int)] ∧ ERep J Gl.1 b p)) (ipl : (i.isOne && e.isLeaf) = false → ∀ {J : IM} {ib : Bool} {ip : Option Addr} {eb : Nat} {ep : Option Addr}, TRep J i.left ib ip → ERep J e.left eb ep → Fun Tryd.prog 96 #[idv ib ip, evv eb ep] J (fun v J => v = .int .i64 ((cl : Nat) : Int))) (ihr : (i.isOne && e.isLeaf) = false → decide (cl < cr) = false → ∀ {J : IM} {ib : Bool} {ip : Option Addr} {eb : Nat} {ep : Option Addr}, TRep J i.right ib ip → ERep J e.right eb ep → Fun Tryd.prog 95 #[idv ib ip, evv eb ep] J (fun v J => ∃ b p, v = .tuple #[evv b p, .int .i64 ((Gr.2 : Nat) : Int)] ∧ ERep J Gr.1 b p)) (ipr : (i.isOne && e.isLeaf) = false → ∀ {J : IM} {ib : Bool} {ip : Option Addr} {eb : Nat} {ep : Option Addr}, TRep J i.right ib ip → ERep J e.right eb ep → Fun Tryd.prog 96 #[idv ib ip, evv eb ep] J (fun v J => v = .int .i64 ((cr : Nat) : Int))) : Fun Tryd.prog 95 #[idv ib ip, evv eb ep] I (fun v J => ∃ b p, v = .tuple #[evv b p, .int .i64 (((if (i.isOne && e.isLeaf) = true then leafR (e.base + 1) else if cl < cr then (if Gl.2 ≠ 0 then (.leaf 0, Gl.2) else nodeR e.base Gl.1 e.right) else (if Gr.2 ≠ 0 then (.leaf 0, Gr.2) else nodeR e.base e.left Gr.1)).2 : Nat) : Int)] ∧ ERep J (if (i.isOne && e.isLeaf) = true then leafR (e.base + 1) else if cl < cr then (if Gl.2 ≠ 0 then (.leaf 0, Gl.2) else nodeR e.base Gl.1 e.right) else (if Gr.2 ≠ 0 then (.leaf 0, Gr.2) else nodeR e.base e.left Gr.1)).1 b p) := by
  have hhalf := E.half_le e
  have hbe := ERep.base he
  have hbt := E.base_le e
  refine enter_rule 56 [(0, .agg #[.bool ib, .pointer ip]), (1, .agg #[.int .u64 ((eb : Nat) : Int), .pointer ep])] Tryd.func95 rfl (by kernel_rfl) ?_
  intro w s
  refine wp_seq ?_
  refine region_rule ?_
  refine ops_rule (C := []) [] [] 4 [] 3 (fun φ1 => [(5, .int .i64 0), (4, .pointer (some ⟨(φ1 2), 0, none⟩)), (3, .pointer (some ⟨(φ1 1), 0, none⟩)), (2, .pointer (some ⟨(φ1 0), 0, none⟩))]) (fun φ1 => [((φ1 0), .cells #[.bool ib, .pointer ip] 62), ((φ1 1), .cells #[.int .u64 ((eb : Nat) : Int), .pointer ep] 27), ((φ1 2), .cells #[.int .u64 0, .pointer none] 27)]) (fun φ1 => []) s trivial (fun φ1 => by kernel_rfl) ?_
  intro φ1 w1 s
  refine ops_done (by kernel_rfl) ?_
  refine wp_seq ?_
  refine wp_seq ?_
  refine region_rule ?_
  refine ops_rule (C := []) [((φ1 0), .cells #[.bool ib, .pointer ip] 62), ((φ1 1), .cells #[.int .u64 ((eb : Nat) : Int), .pointer ep] 27), ((φ1 2), .cells #[.int .u64 0, .pointer none] 27)] [] 2 [.o 0, .o 0, .o 1, .o 1] 0 (fun φ2 => [(10, .agg #[.int .u64 ((eb : Nat) : Int), .pointer ep]), (9, .agg #[.bool ib, .pointer ip])]) (fun φ2 => [((φ1 0), .cells #[.bool ib, .pointer ip] 62), ((φ1 1), .cells #[.int .u64 ((eb : Nat) : Int), .pointer ep] 27), ((φ1 2), .cells #[.int .u64 0, .pointer none] 27)]) (fun φ2 => [(φ1 0), (φ1 0), (φ1 1), (φ1 1)]) s trivial (fun φ2 => by kernel_rfl) ?_
  intro φ2 w2 s
  refine call_rule (some 11) s (atPlace_c hi he) (by kernel_rfl) ?_
  intro v3 I3 w3 le3 h3 s
  replace hi := TRep.mono le3 hi
  replace he := ERep.mono le3 he
  obtain rfl := h3
  refine ops_done (by kernel_rfl) ?_
  rcases Bool.eq_false_or_eq_true ((T.isOne i && E.isLeaf e)) with hc4 | hc4
  ·
    rw [hc4]
    refine cond_true_rule (b := true) (by kernel_rfl) rfl ?_
    refine wp_seq ?_
    refine region_rule ?_
    refine ops_rule (C := []) [((φ1 0), .cells #[.bool ib, .pointer ip] 62), ((φ1 1), .cells #[.int .u64 ((eb : Nat) : Int), .pointer ep] 27), ((φ1 2), .cells #[.int .u64 0, .pointer none] 27)] [] 1 [.o 1, .o 1] 0 (fun φ5 => [(12, .agg #[.int .u64 ((eb : Nat) : Int), .pointer ep])]) (fun φ5 => [((φ1 0), .cells #[.bool ib, .pointer ip] 62), ((φ1 1), .cells #[.int .u64 ((eb : Nat) : Int), .pointer ep] 27), ((φ1 2), .cells #[.int .u64 0, .pointer none] 27)]) (fun φ5 => [(φ1 1), (φ1 1)]) s trivial (fun φ5 => by kernel_rfl) ?_
    intro φ5 w5 s
    refine call_rule (some 13) s (base_c he) (by kernel_rfl) ?_
    intro v6 I6 w6 le6 h6 s
    replace hi := TRep.mono le6 hi
    replace he := ERep.mono le6 he
    obtain rfl := h6
    refine ops_rule (C := []) [((φ1 0), .cells #[.bool ib, .pointer ip] 62), ((φ1 1), .cells #[.int .u64 ((eb : Nat) : Int), .pointer ep] 27), ((φ1 2), .cells #[.int .u64 0, .pointer none] 27)] [] 1 [] 0 (fun φ7 => [(14, .int .u64 (IntKind.wrap .u64 (((eb : Nat) : Int) + ((1 : Nat) : Int))))]) (fun φ7 => [((φ1 0), .cells #[.bool ib, .pointer ip] 62), ((φ1 1), .cells #[.int .u64 ((eb : Nat) : Int), .pointer ep] 27), ((φ1 2), .cells #[.int .u64 0, .pointer none] 27)]) (fun φ7 => []) s trivial (fun φ7 => by kernel_rfl) ?_
    intro φ7 w7 s
    rw [nat_addU (a := eb) (b := 1) (by omega)]
    refine call_rule (some 15) s (leafR_c (n := (eb + 1))) (by kernel_rfl) ?_
    intro v8 I8 w8 le8 h8 s
    replace hi := TRep.mono le8 hi
    replace he := ERep.mono le8 he
    obtain ⟨b8, p8, rfl, h8_0⟩ := h8
    refine ops_rule (C := []) [((φ1 0), .cells #[.bool ib, .pointer ip] 62), ((φ1 1), .cells #[.int .u64 ((eb : Nat) : Int), .pointer ep] 27), ((φ1 2), .cells #[.int .u64 0, .pointer none] 27)] [] 4 [.o 2, .o 2] 0 (fun φ9 => [(5, .int .i64 (((leafR (eb + 1)).2 : Nat) : Int)), (17, .int .i64 (((leafR (eb + 1)).2 : Nat) : Int)), (16, .agg #[.int .u64 ((b8 : Nat) : Int), .pointer p8])]) (fun φ9 => [((φ1 0), .cells #[.bool ib, .pointer ip] 62), ((φ1 1), .cells #[.int .u64 ((eb : Nat) : Int), .pointer ep] 27), ((φ1 2), .cells #[.int .u64 ((b8 : Nat) : Int), .pointer p8] 27)]) (fun φ9 => [(φ1 2), (φ1 2)]) s trivial (fun φ9 => by kernel_rfl) ?_
    intro φ9 w9 s
    refine ops_done (by kernel_rfl) ?_
    refine wp_ret ?_
    refine ret_rule (C := []) [((φ1 0), .cells #[.bool ib, .pointer ip] 62), ((φ1 1), .cells #[.int .u64 ((eb : Nat) : Int), .pointer ep] 27), ((φ1 2), .cells #[.int .u64 ((b8 : Nat) : Int), .pointer p8] 27)] [] (.tuple #[.agg #[.int .u64 ((b8 : Nat) : Int), .pointer p8], .int .i64 (((leafR (eb + 1)).2 : Nat) : Int)]) [.o 2, .o 2] [(φ1 2), (φ1 2)] s trivial (by kernel_rfl) ?_
    simp only [hc4, ↓reduceIte, Bool.false_eq_true]
    exact ⟨_, _, _, rfl, s, (by (try rw [← ERep.base he]); exact ⟨_, _, rfl, h8_0⟩)⟩
  ·
    rw [hc4]
    refine cond_false_rule (b := false) (by kernel_rfl) rfl ?_
    refine wp_skip ?_
    refine wp_seq ?_
    refine draw_rule (C := []) ⟨(fun φ10 xs10 => [.look 0 [.o 1, .o 1] [(φ1 1), (φ1 1)], .call 39 #[.agg #[.int .u64 ((eb : Nat) : Int), .pointer ep]], .look 0 [.o 1, .o 1] [(φ1 1), (φ1 1)], .call 40 #[.agg #[.int .u64 ((eb : Nat) : Int), .pointer ep]], .new, .new, .store 0 [.o 3, .o 3] [(φ10 4), (φ10 4)], .store 1 [.o 4, .o 4] [(φ10 5), (φ10 5)]]), (fun φ10 xs10 => [.agg #[.int .u64 ((eb : Nat) : Int), .pointer ep], .agg #[.int .u64 (((xs10 1).n 0 : Nat) : Int), .pointer ((xs10 1).p 0)], .agg #[.int .u64 ((eb : Nat) : Int), .pointer ep], .agg #[.int .u64 (((xs10 3).n 0 : Nat) : Int), .pointer ((xs10 3).p 0)], .pointer (some ⟨(φ10 4), 0, none⟩), .pointer (some ⟨(φ10 5), 0, none⟩), undef, undef]), (fun φ10 xs10 => [[((φ1 0), .cells #[.bool ib, .pointer ip] 62), ((φ1 1), .cells #[.int .u64 ((eb : Nat) : Int), .pointer ep] 27), ((φ1 2), .cells #[.int .u64 0, .pointer none] 27)], [((φ1 0), .cells #[.bool ib, .pointer ip] 62), ((φ1 1), .cells #[.int .u64 ((eb : Nat) : Int), .pointer ep] 27), ((φ1 2), .cells #[.int .u64 0, .pointer none] 27)], [((φ1 0), .cells #[.bool ib, .pointer ip] 62), ((φ1 1), .cells #[.int .u64 ((eb : Nat) : Int), .pointer ep] 27), ((φ1 2), .cells #[.int .u64 0, .pointer none] 27)]]), (fun φ10 xs10 => [[default, default, default, default, .cells #[.int .u64 0, .pointer none] 27, .cells #[.int .u64 0, .pointer none] 27, default, default], [default, default, default, default, .cells #[.int .u64 (((xs10 1).n 0 : Nat) : Int), .pointer ((xs10 1).p 0)] 27, .cells #[.int .u64 0, .pointer none] 27, default, default], [default, default, default, default, .cells #[.int .u64 (((xs10 1).n 0 : Nat) : Int), .pointer ((xs10 1).p 0)] 27, .cells #[.int .u64 (((xs10 3).n 0 : Nat) : Int), .pointer ((xs10 3).p 0)] 27, default, default]]), [6, 7], [1, 3, 1, 3, 2, 2, 4, 4]⟩ (fun j => ([MP.any, ⟨fun x J => ERep J (E.left e) (x.n 0) (x.p 0), fun le h => ERep.mono le h⟩, MP.any, ⟨fun x J => ERep J (E.right e) (x.n 0) (x.p 0), fun le h => ERep.mono le h⟩, MP.any, MP.any, MP.any, MP.any] : List MP).getD j MP.any) [1, 3] [] [] (fun φ10 xs10 => [[none, none, none, none, none, none, none, none], [none, none, none, none, none, none, none, none]]) (fun φ10 xs10 => [(18, .agg #[.int .u64 ((eb : Nat) : Int), .pointer ep]), (19, .agg #[.int .u64 (((xs10 1).n 0 : Nat) : Int), .pointer ((xs10 1).p 0)]), (20, .agg #[.int .u64 ((eb : Nat) : Int), .pointer ep]), (21, .agg #[.int .u64 (((xs10 3).n 0 : Nat) : Int), .pointer ((xs10 3).p 0)]), (6, .pointer (some ⟨(φ10 4), 0, none⟩)), (7, .pointer (some ⟨(φ10 5), 0, none⟩))]) (fun φ10 xs10 => [((φ1 0), .cells #[.bool ib, .pointer ip] 62), ((φ1 1), .cells #[.int .u64 ((eb : Nat) : Int), .pointer ep] 27), ((φ1 2), .cells #[.int .u64 0, .pointer none] 27), ((φ10 4), .cells #[.int .u64 (((xs10 1).n 0 : Nat) : Int), .pointer ((xs10 1).p 0)] 27), ((φ10 5), .cells #[.int .u64 (((xs10 3).n 0 : Nat) : Int), .pointer ((xs10 3).p 0)] 27)]) s trivial (by kernel_rfl) (by kernel_rfl) (fun _ _ => by kernel_rfl) (fun _ _ => by kernel_rfl) ⟨fun _ _ => by kernel_rfl, fun _ _ => by kernel_rfl, fun _ _ => by kernel_rfl, fun _ _ => by kernel_rfl⟩ (fun _ _ _ => by kernel_rfl) (fun _ _ => by kernel_rfl) (fun _ _ => by kernel_rfl) (fun _ _ => by kernel_rfl) (fun _ _ => by kernel_rfl) (fun _ _ => by kernel_rfl) trivial trivial ⟨?c10_1, ?c10_3, trivial⟩ ?k10
    case c10_1 =>
      refine kcast (A := ∀ (φ10 : Nat → Nat) (xs10 : Xs) (J1_10 : IM), I3.Le J1_10 → Fun Tryd.prog 39 #[.agg #[.int .u64 ((eb : Nat) : Int), .pointer ep]] J1_10 (fun v J' => ∃ x : UX, v = .agg #[.int .u64 ((x.n 0 : Nat) : Int), .pointer (x.p 0)] ∧ (ERep J' (E.left e) (x.n 0) (x.p 0)))) (by kernel_rfl) ?_
      intro φ10 xs10 J1_10 leJ
      have he := ERep.mono leJ he
      exact Fun.mono (left_c he) (fun v J' _ ⟨y0, y1, hv, g0⟩ => ⟨{ UX.d with n := fun j => y0, p := fun j => y1 }, hv, g0⟩)
    case c10_3 =>
      refine kcast (A := ∀ (φ10 : Nat → Nat) (xs10 : Xs) (J3_10 : IM), I3.Le J3_10 → (ERep J3_10 (E.left e) ((xs10 1).n 0) ((xs10 1).p 0)) → Fun Tryd.prog 40 #[.agg #[.int .u64 ((eb : Nat) : Int), .pointer ep]] J3_10 (fun v J' => ∃ x : UX, v = .agg #[.int .u64 ((x.n 0 : Nat) : Int), .pointer (x.p 0)] ∧ (ERep J' (E.right e) (x.n 0) (x.p 0)))) (by kernel_rfl) ?_
      intro φ10 xs10 J3_10 leJ
      rintro h10_1_0
      have he := ERep.mono leJ he
      exact Fun.mono (right_c he) (fun v J' _ ⟨y0, y1, hv, g0⟩ => ⟨{ UX.d with n := fun j => y0, p := fun j => y1 }, hv, g0⟩)
    case k10 =>
      rintro φ10 xs10 I10 w10 le10 s h10_1_0 h10_3_0
      replace hi := TRep.mono le10 hi
      replace he := ERep.mono le10 he
      refine wp_seq ?_
      refine region_rule ?_
      refine ops_rule (C := []) [((φ1 0), .cells #[.bool ib, .pointer ip] 62), ((φ1 1), .cells #[.int .u64 ((eb : Nat) : Int), .pointer ep] 27), ((φ1 2), .cells #[.int .u64 0, .pointer none] 27), ((φ10 4), .cells #[.int .u64 (((xs10 1).n 0 : Nat) : Int), .pointer ((xs10 1).p 0)] 27), ((φ10 5), .cells #[.int .u64 (((xs10 3).n 0 : Nat) : Int), .pointer ((xs10 3).p 0)] 27)] [] 1 [] 0 (fun φ11 => [(8, .int .i64 0)]) (fun φ11 => [((φ1 0), .cells #[.bool ib, .pointer ip] 62), ((φ1 1), .cells #[.int .u64 ((eb : Nat) : Int), .pointer ep] 27), ((φ1 2), .cells #[.int .u64 0, .pointer none] 27), ((φ10 4), .cells #[.int .u64 (((xs10 1).n 0 : Nat) : Int), .pointer ((xs10 1).p 0)] 27), ((φ10 5), .cells #[.int .u64 (((xs10 3).n 0 : Nat) : Int), .pointer ((xs10 3).p 0)] 27)]) (fun φ11 => []) s trivial (fun φ11 => by kernel_rfl) ?_
      intro φ11 w11 s
      refine ops_done (by kernel_rfl) ?_
      refine wp_seq ?_
      refine wp_seq ?_
      refine draw_rule (C := []) ⟨(fun φ12 xs12 => [.look 0 [.o 0, .o 0] [(φ1 0), (φ1 0)], .call 92 #[.agg #[.bool ib, .pointer ip]], .look 0 [.o 3, .o 3] [(φ10 4), (φ10 4)], .call 96 #[.agg #[.bool ((xs12 1).b 0), .pointer ((xs12 1).p 0)], .agg #[.int .u64 (((xs10 1).n 0 : Nat) : Int), .pointer ((xs10 1).p 0)]], .look 0 [.o 0, .o 0] [(φ1 0), (φ1 0)], .call 93 #[.agg #[.bool ib, .pointer ip]], .look 0 [.o 4, .o 4] [(φ10 5), (φ10 5)], .call 96 #[.agg #[.bool ((xs12 5).b 0), .pointer ((xs12 5).p 0)], .agg #[.int .u64 (((xs10 3).n 0 : Nat) : Int), .pointer ((xs10 3).p 0)]], .sub 0 [] [] (.bool (decide (((cl : Nat) : Int) < ((cr : Nat) : Int))))]), (fun φ12 xs12 => [.agg #[.bool ib, .pointer ip], .agg #[.bool ((xs12 1).b 0), .pointer ((xs12 1).p 0)], .agg #[.int .u64 (((xs10 1).n 0 : Nat) : Int), .pointer ((xs10 1).p 0)], .int .i64 ((cl : Nat) : Int), .agg #[.bool ib, .pointer ip], .agg #[.bool ((xs12 5).b 0), .pointer ((xs12 5).p 0)], .agg #[.int .u64 (((xs10 3).n 0 : Nat) : Int), .pointer ((xs10 3).p 0)], .int .i64 ((cr : Nat) : Int), .bool (decide (cl < cr))]), (fun φ12 xs12 => [[((φ1 0), .cells #[.bool ib, .pointer ip] 62), ((φ1 1), .cells #[.int .u64 ((eb : Nat) : Int), .pointer ep] 27), ((φ1 2), .cells #[.int .u64 0, .pointer none] 27), ((φ10 4), .cells #[.int .u64 (((xs10 1).n 0 : Nat) : Int), .pointer ((xs10 1).p 0)] 27), ((φ10 5), .cells #[.int .u64 (((xs10 3).n 0 : Nat) : Int), .pointer ((xs10 3).p 0)] 27)]]), (fun φ12 xs12 => [[default, default, default, default, default, default, default, default, default]]), [], [1, 3, 1, 3, 1, 3, 1, 3, 5]⟩ (fun j => ([MP.any, ⟨fun x J => TRep J (T.left i) (x.b 0) (x.p 0), fun le h => TRep.mono le h⟩, MP.any, MP.any, MP.any, ⟨fun x J => TRep J (T.right i) (x.b 0) (x.p 0), fun le h => TRep.mono le h⟩, MP.any, MP.any, MP.any] : List MP).getD j MP.any) [1, 3, 5, 7] [8] [] (fun φ12 xs12 => []) (fun φ12 xs12 => [(22, .agg #[.bool ib, .pointer ip]), (23, .agg #[.bool ((xs12 1).b 0), .pointer ((xs12 1).p 0)]), (24, .agg #[.int .u64 (((xs10 1).n 0 : Nat) : Int), .pointer ((xs10 1).p 0)]), (25, .int .i64 ((cl : Nat) : Int)), (26, .agg #[.bool ib, .pointer ip]), (27, .agg #[.bool ((xs12 5).b 0), .pointer ((xs12 5).p 0)]), (28, .agg #[.int .u64 (((xs10 3).n 0 : Nat) : Int), .pointer ((xs10 3).p 0)]), (29, .int .i64 ((cr : Nat) : Int)), (30, .bool (decide (cl < cr)))]) (fun φ12 xs12 => [((φ1 0), .cells #[.bool ib, .pointer ip] 62), ((φ1 1), .cells #[.int .u64 ((eb : Nat) : Int), .pointer ep] 27), ((φ1 2), .cells #[.int .u64 0, .pointer none] 27), ((φ10 4), .cells #[.int .u64 (((xs10 1).n 0 : Nat) : Int), .pointer ((xs10 1).p 0)] 27), ((φ10 5), .cells #[.int .u64 (((xs10 3).n 0 : Nat) : Int), .pointer ((xs10 3).p 0)] 27)]) s trivial (by kernel_rfl) (by kernel_rfl) (fun _ _ => by kernel_rfl) (fun _ _ => by kernel_rfl) ⟨fun _ _ => by kernel_rfl, fun _ _ => by kernel_rfl, fun _ _ => by kernel_rfl, fun _ _ => by kernel_rfl⟩ (fun _ _ _ => by kernel_rfl) (fun _ _ => by kernel_rfl) (fun _ _ => by kernel_rfl) (fun _ _ => by kernel_rfl) (fun _ _ => by kernel_rfl) (fun _ _ => by kernel_rfl) ⟨kcast (A := ∀ (φ12 : Nat → Nat) (xs12 : Xs), (.bool (decide (((cl : Nat) : Int) < ((cr : Nat) : Int))) : Value) = .bool (decide (cl < cr))) (by kernel_rfl) (fun φ12 xs12 => congrArg Value.bool ((nat_lss (a := cl) (b := cr)))), trivial⟩ trivial ⟨?c12_1, ?c12_3, ?c12_5, ?c12_7, trivial⟩ ?k12
      case c12_1 =>
        refine kcast (A := ∀ (φ12 : Nat → Nat) (xs12 : Xs) (J1_12 : IM), I10.Le J1_12 → Fun Tryd.prog 92 #[.agg #[.bool ib, .pointer ip]] J1_12 (fun v J' => ∃ x : UX, v = .agg #[.bool (x.b 0), .pointer (x.p 0)] ∧ (TRep J' (T.left i) (x.b 0) (x.p 0)))) (by kernel_rfl) ?_
        intro φ12 xs12 J1_12 leJ
        have hi := TRep.mono leJ hi
        exact Fun.mono (tleft_c hi) (fun v J' _ ⟨y0, y1, hv, g0⟩ => ⟨{ UX.d with b := fun j => y0, p := fun j => y1 }, hv, g0⟩)
      case c12_3 =>
        refine kcast (A := ∀ (φ12 : Nat → Nat) (xs12 : Xs) (J3_12 : IM), I10.Le J3_12 → (TRep J3_12 (T.left i) ((xs12 1).b 0) ((xs12 1).p 0)) → Fun Tryd.prog 96 #[.agg #[.bool ((xs12 1).b 0), .pointer ((xs12 1).p 0)], .agg #[.int .u64 (((xs10 1).n 0 : Nat) : Int), .pointer ((xs10 1).p 0)]] J3_12 (fun v J' => ∃ x : UX, v = .int .i64 ((cl : Nat) : Int) ∧ (True))) (by kernel_rfl) ?_
        intro φ12 xs12 J3_12 leJ
        rintro h12_1_0
        have h10_1_0 := ERep.mono leJ h10_1_0
        exact Fun.mono (ipl hc4 h12_1_0 h10_1_0) (fun v J' _ h => ⟨UX.d, h, trivial⟩)
      case c12_5 =>
        refine kcast (A := ∀ (φ12 : Nat → Nat) (xs12 : Xs) (J5_12 : IM), I10.Le J5_12 → (TRep J5_12 (T.left i) ((xs12 1).b 0) ((xs12 1).p 0)) → (True) → Fun Tryd.prog 93 #[.agg #[.bool ib, .pointer ip]] J5_12 (fun v J' => ∃ x : UX, v = .agg #[.bool (x.b 0), .pointer (x.p 0)] ∧ (TRep J' (T.right i) (x.b 0) (x.p 0)))) (by kernel_rfl) ?_
        intro φ12 xs12 J5_12 leJ
        rintro h12_1_0 _
        have hi := TRep.mono leJ hi
        exact Fun.mono (tright_c hi) (fun v J' _ ⟨y0, y1, hv, g0⟩ => ⟨{ UX.d with b := fun j => y0, p := fun j => y1 }, hv, g0⟩)
      case c12_7 =>
        refine kcast (A := ∀ (φ12 : Nat → Nat) (xs12 : Xs) (J7_12 : IM), I10.Le J7_12 → (TRep J7_12 (T.left i) ((xs12 1).b 0) ((xs12 1).p 0)) → (True) → (TRep J7_12 (T.right i) ((xs12 5).b 0) ((xs12 5).p 0)) → Fun Tryd.prog 96 #[.agg #[.bool ((xs12 5).b 0), .pointer ((xs12 5).p 0)], .agg #[.int .u64 (((xs10 3).n 0 : Nat) : Int), .pointer ((xs10 3).p 0)]] J7_12 (fun v J' => ∃ x : UX, v = .int .i64 ((cr : Nat) : Int) ∧ (True))) (by kernel_rfl) ?_
        intro φ12 xs12 J7_12 leJ
        rintro h12_1_0 _ h12_5_0
        have h10_3_0 := ERep.mono leJ h10_3_0
        exact Fun.mono (ipr hc4 h12_5_0 h10_3_0) (fun v J' _ h => ⟨UX.d, h, trivial⟩)
      case k12 =>
        rintro φ12 xs12 I12 w12 le12 s h12_1_0 _ h12_5_0 _
        replace hi := TRep.mono le12 hi
        replace he := ERep.mono le12 he
        replace h10_1_0 := ERep.mono le12 h10_1_0
        replace h10_3_0 := ERep.mono le12 h10_3_0
        rcases Bool.eq_false_or_eq_true (decide (cl < cr)) with hc13 | hc13
        ·
          rw [hc13]
          refine cond_true_rule (b := true) (by kernel_rfl) rfl ?_
          refine draw_rule (C := []) ⟨(fun φ14 xs14 => [.look 0 [.o 0, .o 0] [(φ1 0), (φ1 0)], .call 92 #[.agg #[.bool ib, .pointer ip]], .look 0 [.o 3, .o 3] [(φ10 4), (φ10 4)], .call 95 #[.agg #[.bool ((xs14 1).b 0), .pointer ((xs14 1).p 0)], .agg #[.int .u64 (((xs10 1).n 0 : Nat) : Int), .pointer ((xs10 1).p 0)]], .look 0 [] [], .look 0 [] [], .look 0 [] [], .store 0 [.o 3, .o 3] [(φ10 4), (φ10 4)], .look 1 [] []]), (fun φ14 xs14 => [.agg #[.bool ib, .pointer ip], .agg #[.bool ((xs14 1).b 0), .pointer ((xs14 1).p 0)], .agg #[.int .u64 (((xs10 1).n 0 : Nat) : Int), .pointer ((xs10 1).p 0)], .tuple #[.agg #[.int .u64 (((xs14 3).n 0 : Nat) : Int), .pointer ((xs14 3).p 0)], .int .i64 ((Gl.2 : Nat) : Int)], .tuple #[.agg #[.int .u64 (((xs14 3).n 0 : Nat) : Int), .pointer ((xs14 3).p 0)], .int .i64 ((Gl.2 : Nat) : Int)], .agg #[.int .u64 (((xs14 3).n 0 : Nat) : Int), .pointer ((xs14 3).p 0)], .int .i64 ((Gl.2 : Nat) : Int), undef, .int .i64 ((Gl.2 : Nat) : Int)]), (fun φ14 xs14 => [[((φ1 0), .cells #[.bool ib, .pointer ip] 62), ((φ1 1), .cells #[.int .u64 ((eb : Nat) : Int), .pointer ep] 27), ((φ1 2), .cells #[.int .u64 0, .pointer none] 27), ((φ10 4), .cells #[.int .u64 (((xs10 1).n 0 : Nat) : Int), .pointer ((xs10 1).p 0)] 27), ((φ10 5), .cells #[.int .u64 (((xs10 3).n 0 : Nat) : Int), .pointer ((xs10 3).p 0)] 27)], [((φ1 0), .cells #[.bool ib, .pointer ip] 62), ((φ1 1), .cells #[.int .u64 ((eb : Nat) : Int), .pointer ep] 27), ((φ1 2), .cells #[.int .u64 0, .pointer none] 27), ((φ10 4), .cells #[.int .u64 (((xs14 3).n 0 : Nat) : Int), .pointer ((xs14 3).p 0)] 27), ((φ10 5), .cells #[.int .u64 (((xs10 3).n 0 : Nat) : Int), .pointer ((xs10 3).p 0)] 27)]]), (fun φ14 xs14 => [[default, default, default, default, default, default, default, default, default], [default, default, default, default, default, default, default, default, default]]), [7], [1, 3, 1, 3, 1, 1, 1, 4, 1]⟩ (fun j => ([MP.any, ⟨fun x J => TRep J (T.left i) (x.b 0) (x.p 0), fun le h => TRep.mono le h⟩, MP.any, ⟨fun x J => ERep J Gl.1 (x.n 0) (x.p 0), fun le h => ERep.mono le h⟩, MP.any, MP.any, MP.any, MP.any, MP.any] : List MP).getD j MP.any) [1, 3] [] [] (fun φ14 xs14 => [[none, none, none, none, none, none, none, none, none]]) (fun φ14 xs14 => [(32, .agg #[.bool ib, .pointer ip]), (33, .agg #[.bool ((xs14 1).b 0), .pointer ((xs14 1).p 0)]), (34, .agg #[.int .u64 (((xs10 1).n 0 : Nat) : Int), .pointer ((xs10 1).p 0)]), (35, .tuple #[.agg #[.int .u64 (((xs14 3).n 0 : Nat) : Int), .pointer ((xs14 3).p 0)], .int .i64 ((Gl.2 : Nat) : Int)]), (31, .tuple #[.agg #[.int .u64 (((xs14 3).n 0 : Nat) : Int), .pointer ((xs14 3).p 0)], .int .i64 ((Gl.2 : Nat) : Int)]), (36, .agg #[.int .u64 (((xs14 3).n 0 : Nat) : Int), .pointer ((xs14 3).p 0)]), (37, .int .i64 ((Gl.2 : Nat) : Int)), (8, .int .i64 ((Gl.2 : Nat) : Int))]) (fun φ14 xs14 => [((φ1 0), .cells #[.bool ib, .pointer ip] 62), ((φ1 1), .cells #[.int .u64 ((eb : Nat) : Int), .pointer ep] 27), ((φ1 2), .cells #[.int .u64 0, .pointer none] 27), ((φ10 4), .cells #[.int .u64 (((xs14 3).n 0 : Nat) : Int), .pointer ((xs14 3).p 0)] 27), ((φ10 5), .cells #[.int .u64 (((xs10 3).n 0 : Nat) : Int), .pointer ((xs10 3).p 0)] 27)]) s trivial (by kernel_rfl) (by kernel_rfl) (fun _ _ => by kernel_rfl) (fun _ _ => by kernel_rfl) ⟨fun _ _ => by kernel_rfl, fun _ _ => by kernel_rfl, fun _ _ => by kernel_rfl, fun _ _ => by kernel_rfl⟩ (fun _ _ _ => by kernel_rfl) (fun _ _ => by kernel_rfl) (fun _ _ => by kernel_rfl) (fun _ _ => by kernel_rfl) (fun _ _ => by kernel_rfl) (fun _ _ => by kernel_rfl) trivial trivial ⟨?c14_1, ?c14_3, trivial⟩ ?k14
          case c14_1 =>
            refine kcast (A := ∀ (φ14 : Nat → Nat) (xs14 : Xs) (J1_14 : IM), I12.Le J1_14 → Fun Tryd.prog 92 #[.agg #[.bool ib, .pointer ip]] J1_14 (fun v J' => ∃ x : UX, v = .agg #[.bool (x.b 0), .pointer (x.p 0)] ∧ (TRep J' (T.left i) (x.b 0) (x.p 0)))) (by kernel_rfl) ?_
            intro φ14 xs14 J1_14 leJ
            have hi := TRep.mono leJ hi
            exact Fun.mono (tleft_c hi) (fun v J' _ ⟨y0, y1, hv, g0⟩ => ⟨{ UX.d with b := fun j => y0, p := fun j => y1 }, hv, g0⟩)
          case c14_3 =>
            refine kcast (A := ∀ (φ14 : Nat → Nat) (xs14 : Xs) (J3_14 : IM), I12.Le J3_14 → (TRep J3_14 (T.left i) ((xs14 1).b 0) ((xs14 1).p 0)) → Fun Tryd.prog 95 #[.agg #[.bool ((xs14 1).b 0), .pointer ((xs14 1).p 0)], .agg #[.int .u64 (((xs10 1).n 0 : Nat) : Int), .pointer ((xs10 1).p 0)]] J3_14 (fun v J' => ∃ x : UX, v = .tuple #[.agg #[.int .u64 ((x.n 0 : Nat) : Int), .pointer (x.p 0)], .int .i64 ((Gl.2 : Nat) : Int)] ∧ (ERep J' Gl.1 (x.n 0) (x.p 0)))) (by kernel_rfl) ?_
            intro φ14 xs14 J3_14 leJ
            rintro h14_1_0
            have h10_1_0 := ERep.mono leJ h10_1_0
            exact Fun.mono (ihl hc4 hc13 h14_1_0 h10_1_0) (fun v J' _ ⟨y0, y1, hv, g0⟩ => ⟨{ UX.d with n := fun j => y0, p := fun j => y1 }, hv, g0⟩)
          case k14 =>
            rintro φ14 xs14 I14 w14 le14 s h14_1_0 h14_3_0
            replace hi := TRep.mono le14 hi
            replace he := ERep.mono le14 he
            replace h10_1_0 := ERep.mono le14 h10_1_0
            replace h10_3_0 := ERep.mono le14 h10_3_0
            replace h12_1_0 := TRep.mono le14 h12_1_0
            replace h12_5_0 := TRep.mono le14 h12_5_0
            refine wp_seq ?_
            refine wp_seq ?_
            refine region_rule ?_
            refine ops_rule (C := []) [((φ1 0), .cells #[.bool ib, .pointer ip] 62), ((φ1 1), .cells #[.int .u64 ((eb : Nat) : Int), .pointer ep] 27), ((φ1 2), .cells #[.int .u64 0, .pointer none] 27), ((φ10 4), .cells #[.int .u64 (((xs14 3).n 0 : Nat) : Int), .pointer ((xs14 3).p 0)] 27), ((φ10 5), .cells #[.int .u64 (((xs10 3).n 0 : Nat) : Int), .pointer ((xs10 3).p 0)] 27)] [] 2 [] 0 (fun φ15 => [(46, .bool (((Gl.2 : Nat) : Int) != ((0 : Nat) : Int))), (45, .int .i64 ((Gl.2 : Nat) : Int))]) (fun φ15 => [((φ1 0), .cells #[.bool ib, .pointer ip] 62), ((φ1 1), .cells #[.int .u64 ((eb : Nat) : Int), .pointer ep] 27), ((φ1 2), .cells #[.int .u64 0, .pointer none] 27), ((φ10 4), .cells #[.int .u64 (((xs14 3).n 0 : Nat) : Int), .pointer ((xs14 3).p 0)] 27), ((φ10 5), .cells #[.int .u64 (((xs10 3).n 0 : Nat) : Int), .pointer ((xs10 3).p 0)] 27)]) (fun φ15 => []) s trivial (fun φ15 => by kernel_rfl) ?_
            intro φ15 w15 s
            rw [nat_neq (a := Gl.2) (b := 0)]
            refine ops_done (by kernel_rfl) ?_
            rcases Bool.eq_false_or_eq_true (decide (Gl.2 ≠ 0)) with hc16 | hc16
            ·
              rw [hc16]
              refine cond_true_rule (b := true) (by kernel_rfl) rfl ?_
              refine wp_seq ?_
              refine region_rule ?_
              refine ops_rule (C := []) [((φ1 0), .cells #[.bool ib, .pointer ip] 62), ((φ1 1), .cells #[.int .u64 ((eb : Nat) : Int), .pointer ep] 27), ((φ1 2), .cells #[.int .u64 0, .pointer none] 27), ((φ10 4), .cells #[.int .u64 (((xs14 3).n 0 : Nat) : Int), .pointer ((xs14 3).p 0)] 27), ((φ10 5), .cells #[.int .u64 (((xs10 3).n 0 : Nat) : Int), .pointer ((xs10 3).p 0)] 27)] [] 4 [.o 2, .o 2] 0 (fun φ17 => [(5, .int .i64 ((Gl.2 : Nat) : Int)), (48, .int .i64 ((Gl.2 : Nat) : Int)), (47, .agg #[.int .u64 0, .pointer none])]) (fun φ17 => [((φ1 0), .cells #[.bool ib, .pointer ip] 62), ((φ1 1), .cells #[.int .u64 ((eb : Nat) : Int), .pointer ep] 27), ((φ1 2), .cells #[.int .u64 0, .pointer none] 27), ((φ10 4), .cells #[.int .u64 (((xs14 3).n 0 : Nat) : Int), .pointer ((xs14 3).p 0)] 27), ((φ10 5), .cells #[.int .u64 (((xs10 3).n 0 : Nat) : Int), .pointer ((xs10 3).p 0)] 27)]) (fun φ17 => [(φ1 2), (φ1 2)]) s trivial (fun φ17 => by kernel_rfl) ?_
              intro φ17 w17 s
              refine ops_done (by kernel_rfl) ?_
              refine wp_ret ?_
              refine ret_rule (C := []) [((φ1 0), .cells #[.bool ib, .pointer ip] 62), ((φ1 1), .cells #[.int .u64 ((eb : Nat) : Int), .pointer ep] 27), ((φ1 2), .cells #[.int .u64 0, .pointer none] 27), ((φ10 4), .cells #[.int .u64 (((xs14 3).n 0 : Nat) : Int), .pointer ((xs14 3).p 0)] 27), ((φ10 5), .cells #[.int .u64 (((xs10 3).n 0 : Nat) : Int), .pointer ((xs10 3).p 0)] 27)] [] (.tuple #[.agg #[.int .u64 0, .pointer none], .int .i64 ((Gl.2 : Nat) : Int)]) [.o 2, .o 2] [(φ1 2), (φ1 2)] s trivial (by kernel_rfl) ?_
              simp only [hc4, ↓reduceIte, Bool.false_eq_true]
              rw [if_pos (of_decide_eq_true hc13), if_pos (of_decide_eq_true hc16)]
              exact ⟨_, _, _, rfl, s, (by (try rw [← ERep.base he]); exact ⟨_, _, rfl, (ERep.lf _ 0)⟩)⟩
            ·
              rw [hc16]
              refine cond_false_rule (b := false) (by kernel_rfl) rfl ?_
              refine wp_skip ?_
              refine wp_seq ?_
              refine draw_rule (C := []) ⟨(fun φ18 xs18 => [.look 0 [.o 1, .o 1] [(φ1 1), (φ1 1)], .call 37 #[.agg #[.int .u64 ((eb : Nat) : Int), .pointer ep]], .look 0 [.o 3, .o 3] [(φ10 4), (φ10 4)], .look 0 [.o 4, .o 4] [(φ10 5), (φ10 5)], .call 18 #[.int .u64 ((eb : Nat) : Int), .agg #[.int .u64 (((xs14 3).n 0 : Nat) : Int), .pointer ((xs14 3).p 0)], .agg #[.int .u64 (((xs10 3).n 0 : Nat) : Int), .pointer ((xs10 3).p 0)]], .look 0 [] [], .look 0 [] [], .store 0 [.o 2, .o 2] [(φ1 2), (φ1 2)], .look 1 [] []]), (fun φ18 xs18 => [.agg #[.int .u64 ((eb : Nat) : Int), .pointer ep], .int .u64 ((eb : Nat) : Int), .agg #[.int .u64 (((xs14 3).n 0 : Nat) : Int), .pointer ((xs14 3).p 0)], .agg #[.int .u64 (((xs10 3).n 0 : Nat) : Int), .pointer ((xs10 3).p 0)], .tuple #[.agg #[.int .u64 (((xs18 4).n 0 : Nat) : Int), .pointer ((xs18 4).p 0)], .int .i64 (((nodeR eb Gl.1 (E.right e)).2 : Nat) : Int)], .agg #[.int .u64 (((xs18 4).n 0 : Nat) : Int), .pointer ((xs18 4).p 0)], .int .i64 (((nodeR eb Gl.1 (E.right e)).2 : Nat) : Int), undef, .int .i64 (((nodeR eb Gl.1 (E.right e)).2 : Nat) : Int)]), (fun φ18 xs18 => [[((φ1 0), .cells #[.bool ib, .pointer ip] 62), ((φ1 1), .cells #[.int .u64 ((eb : Nat) : Int), .pointer ep] 27), ((φ1 2), .cells #[.int .u64 0, .pointer none] 27), ((φ10 4), .cells #[.int .u64 (((xs14 3).n 0 : Nat) : Int), .pointer ((xs14 3).p 0)] 27), ((φ10 5), .cells #[.int .u64 (((xs10 3).n 0 : Nat) : Int), .pointer ((xs10 3).p 0)] 27)], [((φ1 0), .cells #[.bool ib, .pointer ip] 62), ((φ1 1), .cells #[.int .u64 ((eb : Nat) : Int), .pointer ep] 27), ((φ1 2), .cells #[.int .u64 (((xs18 4).n 0 : Nat) : Int), .pointer ((xs18 4).p 0)] 27), ((φ10 4), .cells #[.int .u64 (((xs14 3).n 0 : Nat) : Int), .pointer ((xs14 3).p 0)] 27), ((φ10 5), .cells #[.int .u64 (((xs10 3).n 0 : Nat) : Int), .pointer ((xs10 3).p 0)] 27)]]), (fun φ18 xs18 => [[default, default, default, default, default, default, default, default, default], [default, default, default, default, default, default, default, default, default]]), [7], [1, 3, 1, 1, 3, 1, 1, 4, 1]⟩ (fun j => ([MP.any, MP.any, MP.any, MP.any, ⟨fun x J => ERep J ((nodeR eb Gl.1 (E.right e)).1) (x.n 0) (x.p 0), fun le h => ERep.mono le h⟩, MP.any, MP.any, MP.any, MP.any] : List MP).getD j MP.any) [1, 4] [] [] (fun φ18 xs18 => [[none, none, none, none, none, none, none, none, none]]) (fun φ18 xs18 => [(49, .agg #[.int .u64 ((eb : Nat) : Int), .pointer ep]), (50, .int .u64 ((eb : Nat) : Int)), (51, .agg #[.int .u64 (((xs14 3).n 0 : Nat) : Int), .pointer ((xs14 3).p 0)]), (52, .agg #[.int .u64 (((xs10 3).n 0 : Nat) : Int), .pointer ((xs10 3).p 0)]), (53, .tuple #[.agg #[.int .u64 (((xs18 4).n 0 : Nat) : Int), .pointer ((xs18 4).p 0)], .int .i64 (((nodeR eb Gl.1 (E.right e)).2 : Nat) : Int)]), (54, .agg #[.int .u64 (((xs18 4).n 0 : Nat) : Int), .pointer ((xs18 4).p 0)]), (55, .int .i64 (((nodeR eb Gl.1 (E.right e)).2 : Nat) : Int)), (5, .int .i64 (((nodeR eb Gl.1 (E.right e)).2 : Nat) : Int))]) (fun φ18 xs18 => [((φ1 0), .cells #[.bool ib, .pointer ip] 62), ((φ1 1), .cells #[.int .u64 ((eb : Nat) : Int), .pointer ep] 27), ((φ1 2), .cells #[.int .u64 (((xs18 4).n 0 : Nat) : Int), .pointer ((xs18 4).p 0)] 27), ((φ10 4), .cells #[.int .u64 (((xs14 3).n 0 : Nat) : Int), .pointer ((xs14 3).p 0)] 27), ((φ10 5), .cells #[.int .u64 (((xs10 3).n 0 : Nat) : Int), .pointer ((xs10 3).p 0)] 27)]) s trivial (by kernel_rfl) (by kernel_rfl) (fun _ _ => by kernel_rfl) (fun _ _ => by kernel_rfl) ⟨fun _ _ => by kernel_rfl, fun _ _ => by kernel_rfl, fun _ _ => by kernel_rfl, fun _ _ => by kernel_rfl⟩ (fun _ _ _ => by kernel_rfl) (fun _ _ => by kernel_rfl) (fun _ _ => by kernel_rfl) (fun _ _ => by kernel_rfl) (fun _ _ => by kernel_rfl) (fun _ _ => by kernel_rfl) trivial trivial ⟨?c18_1, ?c18_4, trivial⟩ ?k18
              case c18_1 =>
                refine kcast (A := ∀ (φ18 : Nat → Nat) (xs18 : Xs) (J1_18 : IM), I14.Le J1_18 → Fun Tryd.prog 37 #[.agg #[.int .u64 ((eb : Nat) : Int), .pointer ep]] J1_18 (fun v J' => ∃ x : UX, v = .int .u64 ((eb : Nat) : Int) ∧ (True))) (by kernel_rfl) ?_
                intro φ18 xs18 J1_18 leJ
                have he := ERep.mono leJ he
                exact Fun.mono (base_c he) (fun v J' _ h => ⟨UX.d, h, trivial⟩)
              case c18_4 =>
                refine kcast (A := ∀ (φ18 : Nat → Nat) (xs18 : Xs) (J4_18 : IM), I14.Le J4_18 → (True) → Fun Tryd.prog 18 #[.int .u64 ((eb : Nat) : Int), .agg #[.int .u64 (((xs14 3).n 0 : Nat) : Int), .pointer ((xs14 3).p 0)], .agg #[.int .u64 (((xs10 3).n 0 : Nat) : Int), .pointer ((xs10 3).p 0)]] J4_18 (fun v J' => ∃ x : UX, v = .tuple #[.agg #[.int .u64 ((x.n 0 : Nat) : Int), .pointer (x.p 0)], .int .i64 (((nodeR eb Gl.1 (E.right e)).2 : Nat) : Int)] ∧ (ERep J' ((nodeR eb Gl.1 (E.right e)).1) (x.n 0) (x.p 0)))) (by kernel_rfl) ?_
                intro φ18 xs18 J4_18 leJ
                rintro _
                have h10_3_0 := ERep.mono leJ h10_3_0
                have h14_3_0 := ERep.mono leJ h14_3_0
                exact Fun.mono (nodeR_c (n := eb) h14_3_0 h10_3_0 (by omega) (by omega) (by omega) (by omega)) (fun v J' _ ⟨y0, y1, hv, g0⟩ => ⟨{ UX.d with n := fun j => y0, p := fun j => y1 }, hv, g0⟩)
              case k18 =>
                rintro φ18 xs18 I18 w18 le18 s _ h18_4_0
                replace hi := TRep.mono le18 hi
                replace he := ERep.mono le18 he
                replace h10_1_0 := ERep.mono le18 h10_1_0
                replace h10_3_0 := ERep.mono le18 h10_3_0
                replace h12_1_0 := TRep.mono le18 h12_1_0
                replace h12_5_0 := TRep.mono le18 h12_5_0
                replace h14_1_0 := TRep.mono le18 h14_1_0
                replace h14_3_0 := ERep.mono le18 h14_3_0
                refine wp_ret ?_
                refine ret_rule (C := []) [((φ1 0), .cells #[.bool ib, .pointer ip] 62), ((φ1 1), .cells #[.int .u64 ((eb : Nat) : Int), .pointer ep] 27), ((φ1 2), .cells #[.int .u64 (((xs18 4).n 0 : Nat) : Int), .pointer ((xs18 4).p 0)] 27), ((φ10 4), .cells #[.int .u64 (((xs14 3).n 0 : Nat) : Int), .pointer ((xs14 3).p 0)] 27), ((φ10 5), .cells #[.int .u64 (((xs10 3).n 0 : Nat) : Int), .pointer ((xs10 3).p 0)] 27)] [] (.tuple #[.agg #[.int .u64 (((xs18 4).n 0 : Nat) : Int), .pointer ((xs18 4).p 0)], .int .i64 (((nodeR eb Gl.1 (E.right e)).2 : Nat) : Int)]) [.o 2, .o 2] [(φ1 2), (φ1 2)] s trivial (by kernel_rfl) ?_
                simp only [hc4, ↓reduceIte, Bool.false_eq_true]
                rw [if_pos (of_decide_eq_true hc13), if_neg (of_decide_eq_false hc16)]
                exact ⟨_, _, _, rfl, s, (by (try rw [← ERep.base he]); exact ⟨_, _, rfl, h18_4_0⟩)⟩
        ·
          rw [hc13]
          refine cond_false_rule (b := false) (by kernel_rfl) rfl ?_
          refine draw_rule (C := []) ⟨(fun φ19 xs19 => [.look 0 [.o 0, .o 0] [(φ1 0), (φ1 0)], .call 93 #[.agg #[.bool ib, .pointer ip]], .look 0 [.o 4, .o 4] [(φ10 5), (φ10 5)], .call 95 #[.agg #[.bool ((xs19 1).b 0), .pointer ((xs19 1).p 0)], .agg #[.int .u64 (((xs10 3).n 0 : Nat) : Int), .pointer ((xs10 3).p 0)]], .look 0 [] [], .look 0 [] [], .look 0 [] [], .store 0 [.o 4, .o 4] [(φ10 5), (φ10 5)], .look 1 [] []]), (fun φ19 xs19 => [.agg #[.bool ib, .pointer ip], .agg #[.bool ((xs19 1).b 0), .pointer ((xs19 1).p 0)], .agg #[.int .u64 (((xs10 3).n 0 : Nat) : Int), .pointer ((xs10 3).p 0)], .tuple #[.agg #[.int .u64 (((xs19 3).n 0 : Nat) : Int), .pointer ((xs19 3).p 0)], .int .i64 ((Gr.2 : Nat) : Int)], .tuple #[.agg #[.int .u64 (((xs19 3).n 0 : Nat) : Int), .pointer ((xs19 3).p 0)], .int .i64 ((Gr.2 : Nat) : Int)], .agg #[.int .u64 (((xs19 3).n 0 : Nat) : Int), .pointer ((xs19 3).p 0)], .int .i64 ((Gr.2 : Nat) : Int), undef, .int .i64 ((Gr.2 : Nat) : Int)]), (fun φ19 xs19 => [[((φ1 0), .cells #[.bool ib, .pointer ip] 62), ((φ1 1), .cells #[.int .u64 ((eb : Nat) : Int), .pointer ep] 27), ((φ1 2), .cells #[.int .u64 0, .pointer none] 27), ((φ10 4), .cells #[.int .u64 (((xs10 1).n 0 : Nat) : Int), .pointer ((xs10 1).p 0)] 27), ((φ10 5), .cells #[.int .u64 (((xs10 3).n 0 : Nat) : Int), .pointer ((xs10 3).p 0)] 27)], [((φ1 0), .cells #[.bool ib, .pointer ip] 62), ((φ1 1), .cells #[.int .u64 ((eb : Nat) : Int), .pointer ep] 27), ((φ1 2), .cells #[.int .u64 0, .pointer none] 27), ((φ10 4), .cells #[.int .u64 (((xs10 1).n 0 : Nat) : Int), .pointer ((xs10 1).p 0)] 27), ((φ10 5), .cells #[.int .u64 (((xs19 3).n 0 : Nat) : Int), .pointer ((xs19 3).p 0)] 27)]]), (fun φ19 xs19 => [[default, default, default, default, default, default, default, default, default], [default, default, default, default, default, default, default, default, default]]), [7], [1, 3, 1, 3, 1, 1, 1, 4, 1]⟩ (fun j => ([MP.any, ⟨fun x J => TRep J (T.right i) (x.b 0) (x.p 0), fun le h => TRep.mono le h⟩, MP.any, ⟨fun x J => ERep J Gr.1 (x.n 0) (x.p 0), fun le h => ERep.mono le h⟩, MP.any, MP.any, MP.any, MP.any, MP.any] : List MP).getD j MP.any) [1, 3] [] [] (fun φ19 xs19 => [[none, none, none, none, none, none, none, none, none]]) (fun φ19 xs19 => [(39, .agg #[.bool ib, .pointer ip]), (40, .agg #[.bool ((xs19 1).b 0), .pointer ((xs19 1).p 0)]), (41, .agg #[.int .u64 (((xs10 3).n 0 : Nat) : Int), .pointer ((xs10 3).p 0)]), (42, .tuple #[.agg #[.int .u64 (((xs19 3).n 0 : Nat) : Int), .pointer ((xs19 3).p 0)], .int .i64 ((Gr.2 : Nat) : Int)]), (38, .tuple #[.agg #[.int .u64 (((xs19 3).n 0 : Nat) : Int), .pointer ((xs19 3).p 0)], .int .i64 ((Gr.2 : Nat) : Int)]), (43, .agg #[.int .u64 (((xs19 3).n 0 : Nat) : Int), .pointer ((xs19 3).p 0)]), (44, .int .i64 ((Gr.2 : Nat) : Int)), (8, .int .i64 ((Gr.2 : Nat) : Int))]) (fun φ19 xs19 => [((φ1 0), .cells #[.bool ib, .pointer ip] 62), ((φ1 1), .cells #[.int .u64 ((eb : Nat) : Int), .pointer ep] 27), ((φ1 2), .cells #[.int .u64 0, .pointer none] 27), ((φ10 4), .cells #[.int .u64 (((xs10 1).n 0 : Nat) : Int), .pointer ((xs10 1).p 0)] 27), ((φ10 5), .cells #[.int .u64 (((xs19 3).n 0 : Nat) : Int), .pointer ((xs19 3).p 0)] 27)]) s trivial (by kernel_rfl) (by kernel_rfl) (fun _ _ => by kernel_rfl) (fun _ _ => by kernel_rfl) ⟨fun _ _ => by kernel_rfl, fun _ _ => by kernel_rfl, fun _ _ => by kernel_rfl, fun _ _ => by kernel_rfl⟩ (fun _ _ _ => by kernel_rfl) (fun _ _ => by kernel_rfl) (fun _ _ => by kernel_rfl) (fun _ _ => by kernel_rfl) (fun _ _ => by kernel_rfl) (fun _ _ => by kernel_rfl) trivial trivial ⟨?c19_1, ?c19_3, trivial⟩ ?k19
          case c19_1 =>
            refine kcast (A := ∀ (φ19 : Nat → Nat) (xs19 : Xs) (J1_19 : IM), I12.Le J1_19 → Fun Tryd.prog 93 #[.agg #[.bool ib, .pointer ip]] J1_19 (fun v J' => ∃ x : UX, v = .agg #[.bool (x.b 0), .pointer (x.p 0)] ∧ (TRep J' (T.right i) (x.b 0) (x.p 0)))) (by kernel_rfl) ?_
            intro φ19 xs19 J1_19 leJ
            have hi := TRep.mono leJ hi
            exact Fun.mono (tright_c hi) (fun v J' _ ⟨y0, y1, hv, g0⟩ => ⟨{ UX.d with b := fun j => y0, p := fun j => y1 }, hv, g0⟩)
          case c19_3 =>
            refine kcast (A := ∀ (φ19 : Nat → Nat) (xs19 : Xs) (J3_19 : IM), I12.Le J3_19 → (TRep J3_19 (T.right i) ((xs19 1).b 0) ((xs19 1).p 0)) → Fun Tryd.prog 95 #[.agg #[.bool ((xs19 1).b 0), .pointer ((xs19 1).p 0)], .agg #[.int .u64 (((xs10 3).n 0 : Nat) : Int), .pointer ((xs10 3).p 0)]] J3_19 (fun v J' => ∃ x : UX, v = .tuple #[.agg #[.int .u64 ((x.n 0 : Nat) : Int), .pointer (x.p 0)], .int .i64 ((Gr.2 : Nat) : Int)] ∧ (ERep J' Gr.1 (x.n 0) (x.p 0)))) (by kernel_rfl) ?_
            intro φ19 xs19 J3_19 leJ
            rintro h19_1_0
            have h10_3_0 := ERep.mono leJ h10_3_0
            exact Fun.mono (ihr hc4 hc13 h19_1_0 h10_3_0) (fun v J' _ ⟨y0, y1, hv, g0⟩ => ⟨{ UX.d with n := fun j => y0, p := fun j => y1 }, hv, g0⟩)
          case k19 =>
            rintro φ19 xs19 I19 w19 le19 s h19_1_0 h19_3_0
            replace hi := TRep.mono le19 hi
            replace he := ERep.mono le19 he
            replace h10_1_0 := ERep.mono le19 h10_1_0
            replace h10_3_0 := ERep.mono le19 h10_3_0
            replace h12_1_0 := TRep.mono le19 h12_1_0
            replace h12_5_0 := TRep.mono le19 h12_5_0
            refine wp_seq ?_
            refine wp_seq ?_
            refine region_rule ?_
            refine ops_rule (C := []) [((φ1 0), .cells #[.bool ib, .pointer ip] 62), ((φ1 1), .cells #[.int .u64 ((eb : Nat) : Int), .pointer ep] 27), ((φ1 2), .cells #[.int .u64 0, .pointer none] 27), ((φ10 4), .cells #[.int .u64 (((xs10 1).n 0 : Nat) : Int), .pointer ((xs10 1).p 0)] 27), ((φ10 5), .cells #[.int .u64 (((xs19 3).n 0 : Nat) : Int), .pointer ((xs19 3).p 0)] 27)] [] 2 [] 0 (fun φ20 => [(46, .bool (((Gr.2 : Nat) : Int) != ((0 : Nat) : Int))), (45, .int .i64 ((Gr.2 : Nat) : Int))]) (fun φ20 => [((φ1 0), .cells #[.bool ib, .pointer ip] 62), ((φ1 1), .cells #[.int .u64 ((eb : Nat) : Int), .pointer ep] 27), ((φ1 2), .cells #[.int .u64 0, .pointer none] 27), ((φ10 4), .cells #[.int .u64 (((xs10 1).n 0 : Nat) : Int), .pointer ((xs10 1).p 0)] 27), ((φ10 5), .cells #[.int .u64 (((xs19 3).n 0 : Nat) : Int), .pointer ((xs19 3).p 0)] 27)]) (fun φ20 => []) s trivial (fun φ20 => by kernel_rfl) ?_
            intro φ20 w20 s
            rw [nat_neq (a := Gr.2) (b := 0)]
            refine ops_done (by kernel_rfl) ?_
            rcases Bool.eq_false_or_eq_true (decide (Gr.2 ≠ 0)) with hc21 | hc21
            ·
              rw [hc21]
              refine cond_true_rule (b := true) (by kernel_rfl) rfl ?_
              refine wp_seq ?_
              refine region_rule ?_
              refine ops_rule (C := []) [((φ1 0), .cells #[.bool ib, .pointer ip] 62), ((φ1 1), .cells #[.int .u64 ((eb : Nat) : Int), .pointer ep] 27), ((φ1 2), .cells #[.int .u64 0, .pointer none] 27), ((φ10 4), .cells #[.int .u64 (((xs10 1).n 0 : Nat) : Int), .pointer ((xs10 1).p 0)] 27), ((φ10 5), .cells #[.int .u64 (((xs19 3).n 0 : Nat) : Int), .pointer ((xs19 3).p 0)] 27)] [] 4 [.o 2, .o 2] 0 (fun φ22 => [(5, .int .i64 ((Gr.2 : Nat) : Int)), (48, .int .i64 ((Gr.2 : Nat) : Int)), (47, .agg #[.int .u64 0, .pointer none])]) (fun φ22 => [((φ1 0), .cells #[.bool ib, .pointer ip] 62), ((φ1 1), .cells #[.int .u64 ((eb : Nat) : Int), .pointer ep] 27), ((φ1 2), .cells #[.int .u64 0, .pointer none] 27), ((φ10 4), .cells #[.int .u64 (((xs10 1).n 0 : Nat) : Int), .pointer ((xs10 1).p 0)] 27), ((φ10 5), .cells #[.int .u64 (((xs19 3).n 0 : Nat) : Int), .pointer ((xs19 3).p 0)] 27)]) (fun φ22 => [(φ1 2), (φ1 2)]) s trivial (fun φ22 => by kernel_rfl) ?_
              intro φ22 w22 s
              refine ops_done (by kernel_rfl) ?_
              refine wp_ret ?_
              refine ret_rule (C := []) [((φ1 0), .cells #[.bool ib, .pointer ip] 62), ((φ1 1), .cells #[.int .u64 ((eb : Nat) : Int), .pointer ep] 27), ((φ1 2), .cells #[.int .u64 0, .pointer none] 27), ((φ10 4), .cells #[.int .u64 (((xs10 1).n 0 : Nat) : Int), .pointer ((xs10 1).p 0)] 27), ((φ10 5), .cells #[.int .u64 (((xs19 3).n 0 : Nat) : Int), .pointer ((xs19 3).p 0)] 27)] [] (.tuple #[.agg #[.int .u64 0, .pointer none], .int .i64 ((Gr.2 : Nat) : Int)]) [.o 2, .o 2] [(φ1 2), (φ1 2)] s trivial (by kernel_rfl) ?_
              simp only [hc4, ↓reduceIte, Bool.false_eq_true]
              rw [if_neg (of_decide_eq_false hc13), if_pos (of_decide_eq_true hc21)]
              exact ⟨_, _, _, rfl, s, (by (try rw [← ERep.base he]); exact ⟨_, _, rfl, (ERep.lf _ 0)⟩)⟩
            ·
              rw [hc21]
              refine cond_false_rule (b := false) (by kernel_rfl) rfl ?_
              refine wp_skip ?_
              refine wp_seq ?_
              refine draw_rule (C := []) ⟨(fun φ23 xs23 => [.look 0 [.o 1, .o 1] [(φ1 1), (φ1 1)], .call 37 #[.agg #[.int .u64 ((eb : Nat) : Int), .pointer ep]], .look 0 [.o 3, .o 3] [(φ10 4), (φ10 4)], .look 0 [.o 4, .o 4] [(φ10 5), (φ10 5)], .call 18 #[.int .u64 ((eb : Nat) : Int), .agg #[.int .u64 (((xs10 1).n 0 : Nat) : Int), .pointer ((xs10 1).p 0)], .agg #[.int .u64 (((xs19 3).n 0 : Nat) : Int), .pointer ((xs19 3).p 0)]], .look 0 [] [], .look 0 [] [], .store 0 [.o 2, .o 2] [(φ1 2), (φ1 2)], .look 1 [] []]), (fun φ23 xs23 => [.agg #[.int .u64 ((eb : Nat) : Int), .pointer ep], .int .u64 ((eb : Nat) : Int), .agg #[.int .u64 (((xs10 1).n 0 : Nat) : Int), .pointer ((xs10 1).p 0)], .agg #[.int .u64 (((xs19 3).n 0 : Nat) : Int), .pointer ((xs19 3).p 0)], .tuple #[.agg #[.int .u64 (((xs23 4).n 0 : Nat) : Int), .pointer ((xs23 4).p 0)], .int .i64 (((nodeR eb (E.left e) Gr.1).2 : Nat) : Int)], .agg #[.int .u64 (((xs23 4).n 0 : Nat) : Int), .pointer ((xs23 4).p 0)], .int .i64 (((nodeR eb (E.left e) Gr.1).2 : Nat) : Int), undef, .int .i64 (((nodeR eb (E.left e) Gr.1).2 : Nat) : Int)]), (fun φ23 xs23 => [[((φ1 0), .cells #[.bool ib, .pointer ip] 62), ((φ1 1), .cells #[.int .u64 ((eb : Nat) : Int), .pointer ep] 27), ((φ1 2), .cells #[.int .u64 0, .pointer none] 27), ((φ10 4), .cells #[.int .u64 (((xs10 1).n 0 : Nat) : Int), .pointer ((xs10 1).p 0)] 27), ((φ10 5), .cells #[.int .u64 (((xs19 3).n 0 : Nat) : Int), .pointer ((xs19 3).p 0)] 27)], [((φ1 0), .cells #[.bool ib, .pointer ip] 62), ((φ1 1), .cells #[.int .u64 ((eb : Nat) : Int), .pointer ep] 27), ((φ1 2), .cells #[.int .u64 (((xs23 4).n 0 : Nat) : Int), .pointer ((xs23 4).p 0)] 27), ((φ10 4), .cells #[.int .u64 (((xs10 1).n 0 : Nat) : Int), .pointer ((xs10 1).p 0)] 27), ((φ10 5), .cells #[.int .u64 (((xs19 3).n 0 : Nat) : Int), .pointer ((xs19 3).p 0)] 27)]]), (fun φ23 xs23 => [[default, default, default, default, default, default, default, default, default], [default, default, default, default, default, default, default, default, default]]), [7], [1, 3, 1, 1, 3, 1, 1, 4, 1]⟩ (fun j => ([MP.any, MP.any, MP.any, MP.any, ⟨fun x J => ERep J ((nodeR eb (E.left e) Gr.1).1) (x.n 0) (x.p 0), fun le h => ERep.mono le h⟩, MP.any, MP.any, MP.any, MP.any] : List MP).getD j MP.any) [1, 4] [] [] (fun φ23 xs23 => [[none, none, none, none, none, none, none, none, none]]) (fun φ23 xs23 => [(49, .agg #[.int .u64 ((eb : Nat) : Int), .pointer ep]), (50, .int .u64 ((eb : Nat) : Int)), (51, .agg #[.int .u64 (((xs10 1).n 0 : Nat) : Int), .pointer ((xs10 1).p 0)]), (52, .agg #[.int .u64 (((xs19 3).n 0 : Nat) : Int), .pointer ((xs19 3).p 0)]), (53, .tuple #[.agg #[.int .u64 (((xs23 4).n 0 : Nat) : Int), .pointer ((xs23 4).p 0)], .int .i64 (((nodeR eb (E.left e) Gr.1).2 : Nat) : Int)]), (54, .agg #[.int .u64 (((xs23 4).n 0 : Nat) : Int), .pointer ((xs23 4).p 0)]), (55, .int .i64 (((nodeR eb (E.left e) Gr.1).2 : Nat) : Int)), (5, .int .i64 (((nodeR eb (E.left e) Gr.1).2 : Nat) : Int))]) (fun φ23 xs23 => [((φ1 0), .cells #[.bool ib, .pointer ip] 62), ((φ1 1), .cells #[.int .u64 ((eb : Nat) : Int), .pointer ep] 27), ((φ1 2), .cells #[.int .u64 (((xs23 4).n 0 : Nat) : Int), .pointer ((xs23 4).p 0)] 27), ((φ10 4), .cells #[.int .u64 (((xs10 1).n 0 : Nat) : Int), .pointer ((xs10 1).p 0)] 27), ((φ10 5), .cells #[.int .u64 (((xs19 3).n 0 : Nat) : Int), .pointer ((xs19 3).p 0)] 27)]) s trivial (by kernel_rfl) (by kernel_rfl) (fun _ _ => by kernel_rfl) (fun _ _ => by kernel_rfl) ⟨fun _ _ => by kernel_rfl, fun _ _ => by kernel_rfl, fun _ _ => by kernel_rfl, fun _ _ => by kernel_rfl⟩ (fun _ _ _ => by kernel_rfl) (fun _ _ => by kernel_rfl) (fun _ _ => by kernel_rfl) (fun _ _ => by kernel_rfl) (fun _ _ => by kernel_rfl) (fun _ _ => by kernel_rfl) trivial trivial ⟨?c23_1, ?c23_4, trivial⟩ ?k23
              case c23_1 =>
                refine kcast (A := ∀ (φ23 : Nat → Nat) (xs23 : Xs) (J1_23 : IM), I19.Le J1_23 → Fun Tryd.prog 37 #[.agg #[.int .u64 ((eb : Nat) : Int), .pointer ep]] J1_23 (fun v J' => ∃ x : UX, v = .int .u64 ((eb : Nat) : Int) ∧ (True))) (by kernel_rfl) ?_
                intro φ23 xs23 J1_23 leJ
                have he := ERep.mono leJ he
                exact Fun.mono (base_c he) (fun v J' _ h => ⟨UX.d, h, trivial⟩)
              case c23_4 =>
                refine kcast (A := ∀ (φ23 : Nat → Nat) (xs23 : Xs) (J4_23 : IM), I19.Le J4_23 → (True) → Fun Tryd.prog 18 #[.int .u64 ((eb : Nat) : Int), .agg #[.int .u64 (((xs10 1).n 0 : Nat) : Int), .pointer ((xs10 1).p 0)], .agg #[.int .u64 (((xs19 3).n 0 : Nat) : Int), .pointer ((xs19 3).p 0)]] J4_23 (fun v J' => ∃ x : UX, v = .tuple #[.agg #[.int .u64 ((x.n 0 : Nat) : Int), .pointer (x.p 0)], .int .i64 (((nodeR eb (E.left e) Gr.1).2 : Nat) : Int)] ∧ (ERep J' ((nodeR eb (E.left e) Gr.1).1) (x.n 0) (x.p 0)))) (by kernel_rfl) ?_
                intro φ23 xs23 J4_23 leJ
                rintro _
                have h10_1_0 := ERep.mono leJ h10_1_0
                have h19_3_0 := ERep.mono leJ h19_3_0
                exact Fun.mono (nodeR_c (n := eb) h10_1_0 h19_3_0 (by omega) (by omega) (by omega) (by omega)) (fun v J' _ ⟨y0, y1, hv, g0⟩ => ⟨{ UX.d with n := fun j => y0, p := fun j => y1 }, hv, g0⟩)
              case k23 =>
                rintro φ23 xs23 I23 w23 le23 s _ h23_4_0
                replace hi := TRep.mono le23 hi
                replace he := ERep.mono le23 he
                replace h10_1_0 := ERep.mono le23 h10_1_0
                replace h10_3_0 := ERep.mono le23 h10_3_0
                replace h12_1_0 := TRep.mono le23 h12_1_0
                replace h12_5_0 := TRep.mono le23 h12_5_0
                replace h19_1_0 := TRep.mono le23 h19_1_0
                replace h19_3_0 := ERep.mono le23 h19_3_0
                refine wp_ret ?_
                refine ret_rule (C := []) [((φ1 0), .cells #[.bool ib, .pointer ip] 62), ((φ1 1), .cells #[.int .u64 ((eb : Nat) : Int), .pointer ep] 27), ((φ1 2), .cells #[.int .u64 (((xs23 4).n 0 : Nat) : Int), .pointer ((xs23 4).p 0)] 27), ((φ10 4), .cells #[.int .u64 (((xs10 1).n 0 : Nat) : Int), .pointer ((xs10 1).p 0)] 27), ((φ10 5), .cells #[.int .u64 (((xs19 3).n 0 : Nat) : Int), .pointer ((xs19 3).p 0)] 27)] [] (.tuple #[.agg #[.int .u64 (((xs23 4).n 0 : Nat) : Int), .pointer ((xs23 4).p 0)], .int .i64 (((nodeR eb (E.left e) Gr.1).2 : Nat) : Int)]) [.o 2, .o 2] [(φ1 2), (φ1 2)] s trivial (by kernel_rfl) ?_
                simp only [hc4, ↓reduceIte, Bool.false_eq_true]
                rw [if_neg (of_decide_eq_false hc13), if_neg (of_decide_eq_false hc21)]
                exact ⟨_, _, _, rfl, s, (by (try rw [← ERep.base he]); exact ⟨_, _, rfl, h23_4_0⟩)⟩

def T.live : T → Prop
  | .node l r => l.live ∧ r.live ∧ (l.isZero = false ∨ r.isZero = false)
  | _ => True
theorem priceF_zero {n : Nat} {i : T} {e : E} (hn : 0 < n) (hz : i.isZero = true) : priceF n i e = 1048576 := by
  cases n with
  | zero => omega
  | succ n => rw [priceF_succ, if_pos hz]
theorem T.live_half {i : T} (h : i.live) : i.left.live ∧ i.right.live := by
  cases i with
  | zero => exact ⟨trivial, trivial⟩
  | one => exact ⟨trivial, trivial⟩
  | node l r => exact ⟨h.1, h.2.1⟩
theorem T.live_or {i : T} (h : i.live) (hz : i.isZero = false) : i.left.isZero = false ∨ i.right.isZero = false := by
  cases i with
  | zero => cases hz
  | one => exact .inl rfl
  | node l r => exact h.2.2
theorem price_lt : ∀ (n : Nat) {i : T} {e : E}, i.live → i.isZero = false → i.depth + e.depth < n → priceF n i e ≤ 1001 * n
  | 0, _, _, _, _, h => by omega
  | n + 1, i, e, hl, hz, h => by
    rw [priceF_succ, if_neg (by simp [hz])]
    by_cases ha : i.isOne = true ∧ e.isLeaf = true
    · rw [if_pos ha]; omega
    · have g := go_on hz (by simpa using ha) h
      rw [if_neg ha]
      have hh := T.live_half hl
      have : min (priceF n i.left e.left) (priceF n i.right e.right) ≤ 1001 * n := by
        rcases T.live_or hl hz with k | k
        · have := price_lt n hh.1 k g.1; omega
        · have := price_lt n hh.2 k g.2; omega
      split <;> omega
theorem live_side {i : T} {e : E} {n : Nat} (hn : n ≤ 1000) (hl : i.live) (hz : i.isZero = false) (ha : (i.isOne && e.isLeaf) = false) (h : i.depth + e.depth < n + 1) :
    (decide (priceF n i.left e.left < priceF n i.right e.right) = true → i.left.isZero = false) ∧ (decide (priceF n i.left e.left < priceF n i.right e.right) = false → i.right.isZero = false) := by
  have g := go_on hz ha h
  have hh := T.live_half hl
  constructor
  · intro hd
    have hd := of_decide_eq_true hd
    cases k : i.left.isZero
    · rfl
    · have k2 := T.live_or hl hz
      rw [k] at k2
      have k2 : i.right.isZero = false := by simpa using k2
      have := price_lt n hh.2 k2 g.2
      have := priceF_zero (n := n) (e := e.left) (by omega) k
      omega
  · intro hd
    have hd := of_decide_eq_false hd
    cases k : i.right.isZero
    · rfl
    · have k2 := T.live_or hl hz
      rw [k] at k2
      have k2 : i.left.isZero = false := by simpa using k2
      have := price_lt n hh.1 k2 g.1
      have := priceF_zero (n := n) (e := e.right) (by omega) k
      omega
theorem grow_c : ∀ (n : Nat) {I : IM} {i : T} {e : E} {ib : Bool} {ip : Option Addr} {eb : Nat} {ep : Option Addr}, n ≤ 1000 → i.live → i.isZero = false → i.depth + e.depth < n → e.top ≤ 1048576 → e.depth ≤ 16 → TRep I i ib ip → ERep I e eb ep → Fun Tryd.prog 95 #[idv ib ip, evv eb ep] I (fun v J => ∃ b p, v = .tuple #[evv b p, .int .i64 (((growF n i e).2 : Nat) : Int)] ∧ ERep J (growF n i e).1 b p)
  | 0, _, _, _, _, _, _, _, _, _, _, h, _, _, _, _ => by omega
  | n + 1, I, i, e, _, _, _, _, hn, hl, hz, h, ht, hd, hi, he => by
    have hh := T.live_half hl
    have hb := E.half_le e
    have := grow_step (Gl := growF n i.left e.left) (Gr := growF n i.right e.right) (cl := priceF n i.left e.left) (cr := priceF n i.right e.right) hi he ht hd (grow_b n _ _) (grow_b n _ _)
      (fun ha hc {J} {ib} {ip} {eb} {ep} k1 k2 => grow_c n (by omega) hh.1 ((live_side (by omega) hl hz ha h).1 hc) (go_on hz ha h).1 (by omega) (by omega) k1 k2)
      (fun ha {J} {ib} {ip} {eb} {ep} k1 k2 => price_c n (by omega) (go_on hz ha h).1 k1 k2)
      (fun ha hc {J} {ib} {ip} {eb} {ep} k1 k2 => grow_c n (by omega) hh.2 ((live_side (by omega) hl hz ha h).2 hc) (go_on hz ha h).2 (by omega) (by omega) k1 k2)
      (fun ha {J} {ib} {ip} {eb} {ep} k1 k2 => price_c n (by omega) (go_on hz ha h).2 k1 k2)
    refine this.mono fun v J _ hv => ?_
    obtain ⟨b, p, hv, hr⟩ := hv
    have heq : (if (i.isOne && e.isLeaf) = true then leafR (e.base + 1) else if priceF n i.left e.left < priceF n i.right e.right then (if (growF n i.left e.left).2 ≠ 0 then (.leaf 0, (growF n i.left e.left).2) else nodeR e.base (growF n i.left e.left).1 e.right) else (if (growF n i.right e.right).2 ≠ 0 then (.leaf 0, (growF n i.right e.right).2) else nodeR e.base e.left (growF n i.right e.right).1)) = growF (n + 1) i e := by
      rw [growF_succ]
      cases h1 : i.isOne <;> cases h2 : e.isLeaf <;> simp
    rw [heq] at hv hr
    exact ⟨b, p, hv, hr⟩

end Go.Proofs.YtgdickihjaomjaaDoor
