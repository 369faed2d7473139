/- The sums; are bytes alike. -/
import Derived.Test.YtpnlaeapnokipaaDW1
set_option linter.all false
set_option maxRecDepth 100000
namespace Go.Proofs.Ytpnlaeapnokipaa
open Go.RowKit Go.Sep
attribute [local irreducible] Go.wpList Go.Code.wp

set_option maxHeartbeats 400000 in
theorem sum_c {I : IM} {l : List UInt8} {a : Option Addr} {n c : Nat} (hl : BSl I l (.slice a n c)) (hn : l.length ≤ 1000000000) : Fun Try.prog 37 #[.slice a n c] I (fun v J => v = .int .u32 ((4294967295 - crc 4294967295 l : Nat) : Int)) := by
  obtain ⟨rfl, -⟩ := hl.cap
  refine enter_rule 6 [(0, .slice a l.length c)] Try.func37 rfl (by kernel_rfl) ?_
  intro w s
  refine wp_seq ?_
  refine region_rule ?_
  refine ops_rule (C := []) [] [] 1 [] 0 (fun φ1 => [(2, .int .u32 0)]) (fun φ1 => []) (fun φ1 => []) s trivial (fun φ1 => by kernel_rfl) ?_
  intro φ1 w1 s
  refine ops_done (by kernel_rfl) ?_
  refine wp_seq ?_
  refine region_rule ?_
  refine ops_rule (C := []) [] [] 1 [] 0 (fun φ2 => [(3, .slice a l.length c)]) (fun φ2 => []) (fun φ2 => []) s trivial (fun φ2 => by kernel_rfl) ?_
  intro φ2 w2 s
  refine call_rule (some 4) s (divide_c (r := 4294967295) hl (by   (try simp only [List.length_append, List.length_cons, List.length_nil, List.length_take, List.length_drop]); omega) (by decide)) (by kernel_rfl) ?_
  intro v3 I3 w3 le3 h3 s
  replace hl := BSl.mono le3 hl
  obtain rfl := h3
  refine sem_rule (Op.unary .xor (.int .u32 ((crc 4294967295 l : Nat) : Int))) (some 5) (.int .u32 ((4294967295 - (crc 4294967295 l) : Nat) : Int)) (by kernel_rfl) (run_not32 (crc_lt _ (by decide))) ?_
  refine ops_rule (C := []) [] [] 1 [] 0 (fun φ4 => [(2, .int .u32 ((4294967295 - (crc 4294967295 l) : Nat) : Int))]) (fun φ4 => []) (fun φ4 => []) s trivial (fun φ4 => by kernel_rfl) ?_
  intro φ4 w4 s
  refine ops_done (by kernel_rfl) ?_
  refine wp_ret ?_
  refine ret_rule (C := []) [] [] (.int .u32 ((4294967295 - (crc 4294967295 l) : Nat) : Int)) [] [] s trivial (by kernel_rfl) ?_
  exact ⟨_, _, _, rfl, s, rfl⟩

theorem same_go {l m : List UInt8} {i : Nat} (h : i < l.length) (h2 : i < m.length) (e : l.drop i = m.drop i ↔ l = m) (hc : ¬ (l.getD i 0).toNat ≠ (m.getD i 0).toNat) : l.drop (i + 1) = m.drop (i + 1) ↔ l = m := by
  rw [← e, drop_cons h, drop_cons h2]
  have : l.getD i 0 = m.getD i 0 := UInt8.toNat_inj.1 (Decidable.not_not.1 hc)
  rw [this]; simp
theorem same_no {l m : List UInt8} {i : Nat} (hc : (l.getD i 0).toNat ≠ (m.getD i 0).toNat) : ¬ l = m := fun e => hc (by rw [e])

set_option maxHeartbeats 2000000 in
theorem same_c {I : IM} {l : List UInt8} {a : Option Addr} {n c : Nat} (hl : BSl I l (.slice a n c)) (hn : l.length ≤ 1000000000) {l2 : List UInt8} {a2 : Option Addr} {n2 c2 : Nat} (hl2 : BSl I l2 (.slice a2 n2 c2)) (hn2 : l2.length ≤ 1000000000) : Fun Try.prog 41 #[.slice a n c, .slice a2 n2 c2] I (fun v J => v = .bool (decide (l = l2))) := by
  obtain ⟨rfl, -⟩ := hl.cap
  obtain ⟨rfl, -⟩ := hl2.cap
  refine enter_rule 26 [(0, .slice a l.length c), (1, .slice a2 l2.length c2)] Try.func41 rfl (by kernel_rfl) ?_
  intro w s
  refine wp_seq ?_
  refine region_rule ?_
  refine ops_rule (C := []) [] [] 1 [] 0 (fun φ1 => [(4, .bool false)]) (fun φ1 => []) (fun φ1 => []) s trivial (fun φ1 => by kernel_rfl) ?_
  intro φ1 w1 s
  refine ops_done (by kernel_rfl) ?_
  refine wp_seq ?_
  refine wp_seq ?_
  refine region_rule ?_
  refine ops_rule (C := []) [] [] 5 [] 0 (fun φ2 => [(10, .bool (((l.length : Nat) : Int) != ((l2.length : Nat) : Int))), (9, .int .i64 ((l2.length : Nat) : Int)), (8, .slice a2 l2.length c2), (7, .int .i64 ((l.length : Nat) : Int)), (6, .slice a l.length c)]) (fun φ2 => []) (fun φ2 => []) s trivial (fun φ2 => by kernel_rfl) ?_
  intro φ2 w2 s
  rw [nat_neq (a := l.length) (b := l2.length)]
  refine ops_done (by kernel_rfl) ?_
  rcases Bool.eq_false_or_eq_true (decide (l.length ≠ l2.length)) with hc3 | hc3
  ·
    rw [hc3]
    refine cond_true_rule (b := true) (by kernel_rfl) rfl ?_
    refine wp_seq ?_
    refine region_rule ?_
    refine ops_rule (C := []) [] [] 1 [] 0 (fun φ4 => [(4, .bool false)]) (fun φ4 => []) (fun φ4 => []) s trivial (fun φ4 => by kernel_rfl) ?_
    intro φ4 w4 s
    refine ops_done (by kernel_rfl) ?_
    refine wp_ret ?_
    refine ret_rule (C := []) [] [] (.bool false) [] [] s trivial (by kernel_rfl) ?_
    exact ⟨_, _, _, rfl, s, (congrArg Value.bool (decide_eq_false (fun e => (of_decide_eq_true hc3) (congrArg List.length e))).symm)⟩
  ·
    rw [hc3]
    refine cond_false_rule (b := false) (by kernel_rfl) rfl ?_
    refine wp_skip ?_
    refine wp_seq ?_
    refine wp_seq ?_
    refine region_rule ?_
    refine ops_rule (C := []) [] [] 3 [] 0 (fun φ5 => [(13, .int .i64 0), (12, .int .i64 ((l.length : Nat) : Int)), (11, .slice a l.length c)]) (fun φ5 => []) (fun φ5 => []) s trivial (fun φ5 => by kernel_rfl) ?_
    intro φ5 w5 s
    refine ops_done (by kernel_rfl) ?_
    refine wp_block ?_
    have hlen := Decidable.not_not.1 (of_decide_eq_false hc3)
    have hle6 := IM.Le.refl I
    refine loop_rule (fun (x : Nat) => [(0, .slice a l.length c), (1, .slice a2 l2.length c2), (12, .int .i64 ((l.length : Nat) : Int)), (13, .int .i64 ((x : Nat) : Int))]) (fun (x : Nat) => []) (fun m (x : Nat) J => IM.Le I J ∧ x + m = l.length ∧ (l.drop x = l2.drop x ↔ l = l2)) (l.length) 0 s (by kernel_rfl) List.Sublist.slnil ⟨IM.Le.refl _, Nat.zero_add _, Iff.rfl⟩ ?_
    rintro m7 i7 I7 w7 ev7 s ⟨le7, hi7_0, hi7_1⟩
    try dsimp only at s hi7_0 hi7_1 ⊢
    replace hl := BSl.mono le7 hl
    replace hl2 := BSl.mono le7 hl2
    replace hle6 := leMono le7 hle6
    refine wp_seq ?_
    refine region_rule ?_
    refine ops_rule (C := []) [] [] 1 [] 0 (fun φ8 => [(14, .bool (decide (((i7 : Nat) : Int) < ((l.length : Nat) : Int))))]) (fun φ8 => []) (fun φ8 => []) s trivial (fun φ8 => by kernel_rfl) ?_
    intro φ8 w8 s
    rw [nat_lss (a := i7) (b := l.length)]
    refine ops_done (by kernel_rfl) ?_
    refine wp_seq ?_
    rcases Bool.eq_false_or_eq_true (decide (i7 < l.length)) with hc9 | hc9
    ·
      rw [hc9]
      refine cond_true_rule (b := true) (by kernel_rfl) rfl ?_
      refine wp_skip ?_
      refine wp_seq ?_
      refine wp_block ?_
      refine wp_seq ?_
      refine region_rule ?_
      refine ops_rule (C := []) [] [] 2 [] 0 (fun φ10 => [(5, .int .i64 ((i7 : Nat) : Int)), (15, .int .i64 ((i7 : Nat) : Int))]) (fun φ10 => []) (fun φ10 => []) s trivial (fun φ10 => by kernel_rfl) ?_
      intro φ10 w10 s
      refine ops_done (by kernel_rfl) ?_
      refine wp_seq ?_
      refine draw_rule (C := []) ⟨(fun φ11 xs11 => [.look 0 [] [], .look 0 [] [], .ran (Instr.indexAt 34 (.slice a l.length c) (.int .i64 ((i7 : Nat) : Int))), .ran (Instr.loadAt 5 (.pointer (pAt a i7))), .look 0 [] [], .look 0 [] [], .ran (Instr.indexAt 34 (.slice a2 l2.length c2) (.int .i64 ((i7 : Nat) : Int))), .ran (Instr.loadAt 5 (.pointer (pAt a2 i7))), .sub 0 [] [] (.bool ((((l.getD i7 0).toNat : Nat) : Int) != (((l2.getD i7 0).toNat : Nat) : Int)))]), (fun φ11 xs11 => [.slice a l.length c, .int .i64 ((i7 : Nat) : Int), .pointer (pAt a i7), .int .u8 (((l.getD i7 0).toNat : Nat) : Int), .slice a2 l2.length c2, .int .i64 ((i7 : Nat) : Int), .pointer (pAt a2 i7), .int .u8 (((l2.getD i7 0).toNat : Nat) : Int), .bool (decide (((l.getD i7 0).toNat) ≠ ((l2.getD i7 0).toNat)))]), (fun φ11 xs11 => [[]]), (fun φ11 xs11 => [[default, default, default, default, default, default, default, default, default]]), [], [1, 1, 6, 6, 1, 1, 6, 6, 5]⟩ (fun j => ([MP.any, MP.any, MP.any, MP.any, MP.any, MP.any, MP.any, MP.any, MP.any] : List MP).getD j MP.any) [] [8] [2, 3, 6, 7] (fun φ11 xs11 => []) (fun φ11 xs11 => [(16, .slice a l.length c), (17, .int .i64 ((i7 : Nat) : Int)), (18, .pointer (pAt a i7)), (19, .int .u8 (((l.getD i7 0).toNat : Nat) : Int)), (20, .slice a2 l2.length c2), (21, .int .i64 ((i7 : Nat) : Int)), (22, .pointer (pAt a2 i7)), (23, .int .u8 (((l2.getD i7 0).toNat : Nat) : Int)), (24, .bool (decide (((l.getD i7 0).toNat) ≠ ((l2.getD i7 0).toNat))))]) (fun φ11 xs11 => []) s trivial (by kernel_rfl) (by kernel_rfl) (fun _ _ => by kernel_rfl) (fun _ _ => by kernel_rfl) ⟨fun _ _ => by kernel_rfl, fun _ _ => by kernel_rfl, fun _ _ => by kernel_rfl, fun _ _ => by kernel_rfl⟩ (fun _ _ _ => by kernel_rfl) (fun _ _ => by kernel_rfl) (fun _ _ => by kernel_rfl) (fun _ _ => by kernel_rfl) (fun _ _ => by kernel_rfl) (fun _ _ => by kernel_rfl) ⟨kcast (A := ∀ (φ11 : Nat → Nat) (xs11 : Xs), (.bool ((((l.getD i7 0).toNat : Nat) : Int) != (((l2.getD i7 0).toNat : Nat) : Int)) : Value) = .bool (decide (((l.getD i7 0).toNat) ≠ ((l2.getD i7 0).toNat)))) (by kernel_rfl) (fun φ11 xs11 => congrArg Value.bool ((nat_neq (a := ((l.getD i7 0).toNat)) (b := ((l2.getD i7 0).toNat))))), trivial⟩ ⟨kcast (A := ∀ (φ11 : Nat → Nat) (xs11 : Xs) (J : IM) (w : World), I7.Le J → J.Sub w → ((Instr.indexAt 34 (.slice a l.length c) (.int .i64 ((i7 : Nat) : Int))) : Sem Value).run Try.prog w = .ok (.pointer (pAt a i7)) w) (by kernel_rfl) (fun φ11 xs11 J w hJ hS => bsl_idx (BSl.mono hJ hl) (by try have hln := hlen; have hq0 := of_decide_eq_false hc3; have hq1 := of_decide_eq_true hc9; omega)), ⟨kcast (A := ∀ (φ11 : Nat → Nat) (xs11 : Xs) (J : IM) (w : World), I7.Le J → J.Sub w → ((Instr.loadAt 5 (.pointer (pAt a i7))) : Sem Value).run Try.prog w = .ok (.int .u8 (((l.getD i7 0).toNat : Nat) : Int)) w) (by kernel_rfl) (fun φ11 xs11 J w hJ hS => bsl_ld hS (BSl.mono hJ hl) (by try have hln := hlen; have hq0 := of_decide_eq_false hc3; have hq1 := of_decide_eq_true hc9; omega)), ⟨kcast (A := ∀ (φ11 : Nat → Nat) (xs11 : Xs) (J : IM) (w : World), I7.Le J → J.Sub w → ((Instr.indexAt 34 (.slice a2 l2.length c2) (.int .i64 ((i7 : Nat) : Int))) : Sem Value).run Try.prog w = .ok (.pointer (pAt a2 i7)) w) (by kernel_rfl) (fun φ11 xs11 J w hJ hS => bsl_idx (BSl.mono hJ hl2) (by try have hln := hlen; have hq0 := of_decide_eq_false hc3; have hq1 := of_decide_eq_true hc9; omega)), ⟨kcast (A := ∀ (φ11 : Nat → Nat) (xs11 : Xs) (J : IM) (w : World), I7.Le J → J.Sub w → ((Instr.loadAt 5 (.pointer (pAt a2 i7))) : Sem Value).run Try.prog w = .ok (.int .u8 (((l2.getD i7 0).toNat : Nat) : Int)) w) (by kernel_rfl) (fun φ11 xs11 J w hJ hS => bsl_ld hS (BSl.mono hJ hl2) (by try have hln := hlen; have hq0 := of_decide_eq_false hc3; have hq1 := of_decide_eq_true hc9; omega)), trivial⟩⟩⟩⟩ (by kernel_rfl) trivial ?k11
      case k11 =>
        rintro φ11 xs11 I11 w11 le11 s 
        replace hl := BSl.mono le11 hl
        replace hl2 := BSl.mono le11 hl2
        replace hle6 := leMono le11 hle6
        rcases Bool.eq_false_or_eq_true (decide (((l.getD i7 0).toNat) ≠ ((l2.getD i7 0).toNat))) with hc12 | hc12
        ·
          rw [hc12]
          refine cond_true_rule (b := true) (by kernel_rfl) rfl ?_
          refine wp_seq ?_
          refine region_rule ?_
          refine ops_rule (C := []) [] [] 1 [] 0 (fun φ13 => [(4, .bool false)]) (fun φ13 => []) (fun φ13 => []) s trivial (fun φ13 => by kernel_rfl) ?_
          intro φ13 w13 s
          refine ops_done (by kernel_rfl) ?_
          refine wp_ret ?_
          refine ret_rule (C := []) [] [] (.bool false) [] [] s trivial (by kernel_rfl) ?_
          exact ⟨_, _, _, rfl, s, (congrArg Value.bool (decide_eq_false (same_no (of_decide_eq_true hc12))).symm)⟩
        ·
          rw [hc12]
          refine cond_false_rule (b := false) (by kernel_rfl) rfl ?_
          refine wp_skip ?_
          refine region_rule ?_
          refine ops_rule (C := []) [] [] 2 [] 0 (fun φ14 => [(13, .int .i64 (IntKind.wrap .i64 (((i7 : Nat) : Int) + ((1 : Nat) : Int)))), (25, .int .i64 (IntKind.wrap .i64 (((i7 : Nat) : Int) + ((1 : Nat) : Int))))]) (fun φ14 => []) (fun φ14 => []) s trivial (fun φ14 => by kernel_rfl) ?_
          intro φ14 w14 s
          rw [nat_addI (a := i7) (b := 1) (by try have hln := hlen; have hq0 := of_decide_eq_false hc3; have hq1 := of_decide_eq_true hc9; have hq2 := of_decide_eq_false hc12; omega)]
          refine ops_done (by kernel_rfl) ?_
          have hq9 := of_decide_eq_true hc9
          exact ⟨⟨m7 - 1, i7 + 1, _, _, _, by omega, rfl, s, List.Sublist.slnil, by kernel_rfl, hle6, by show i7 + 1 + (m7 - 1) = l.length; omega, same_go hq9 (by omega) hi7_1 (of_decide_eq_false hc12)⟩⟩
    ·
      rw [hc9]
      refine cond_false_rule (b := false) (by kernel_rfl) rfl ?_
      refine wp_exit ?_
      refine wp_seq ?_
      refine region_rule ?_
      refine ops_rule (C := []) [] [] 1 [] 0 (fun φ15 => [(4, .bool true)]) (fun φ15 => []) (fun φ15 => []) s trivial (fun φ15 => by kernel_rfl) ?_
      intro φ15 w15 s
      refine ops_done (by kernel_rfl) ?_
      refine wp_ret ?_
      refine ret_rule (C := []) [] [] (.bool true) [] [] s trivial (by kernel_rfl) ?_
      exact ⟨_, _, _, rfl, s, (congrArg Value.bool (decide_eq_true (hi7_1.1 (by have := of_decide_eq_false hc9; rw [List.drop_of_length_le (by omega), List.drop_of_length_le (by omega)]))).symm)⟩

end Go.Proofs.Ytpnlaeapnokipaa
