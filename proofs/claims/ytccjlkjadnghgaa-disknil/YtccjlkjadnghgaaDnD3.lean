/- A disk is read, appended to, dropped from. -/
import Derived.Test.YtccjlkjadnghgaaDnD2
set_option linter.all false
set_option maxRecDepth 100000
namespace Go.Proofs.Ytccjlkjadnghgaa
open Go.RowKit Go.Sep
attribute [local irreducible] Go.wpList Go.Code.wp

set_option maxHeartbeats 1000000 in
theorem read_r {I : IM} {d m room used armed torn : Nat} {full off : Bool} {arr : Array MapEntry} {clk k : Nat} {v0 : Value} {b : List UInt8} {r : Bool} (hd : I d = some (.cells #[.map (some m), .int .i64 ((room : Nat) : Int), .int .i64 ((used : Nat) : Int), .bool full, .bool off, .int .i64 ((armed : Nat) : Int), .int .i64 ((torn : Nat) : Int)] 70)) (hm : I m = some (.map arr clk)) (hf : ∀ w clk, w.heap[m]? = some (.map arr clk) → (Instr.lookup 66 (.map (some m)) (.int .u64 ((k : Nat) : Int)) false).run Try.prog w = .ok v0 w) (hl : ∀ w clk, w.heap[m]? = some (.map arr clk) → (Instr.lookup 66 (.map (some m)) (.int .u64 ((k : Nat) : Int)) true).run Try.prog w = .ok (.tuple #[v0, .bool r]) w) (hb : BSl I b v0) (hn : b.length ≤ 1000000000) : FunM Try.prog 13 #[.pointer (some ⟨d, 0, none⟩), .int .u64 ((k : Nat) : Int)] I [] (fun v J F => ∃ v1, v = .tuple #[v1, .bool r] ∧ RowH 5 1 v1 b.length (b.map bV) F) := by
  obtain ⟨a0, c0, rfl, -, hb⟩ := hb.open
  have hm0 := hm
  refine enterM_rule 21 [(0, .pointer (some ⟨d, 0, none⟩)), (1, .int .u64 ((k : Nat) : Int))] Try.func13 rfl (by kernel_rfl) ?_
  intro w s
  refine wp_seq ?_
  refine region_rule ?_
  refine ops_rule (C := []) [] [] 2 [] 0 (fun φ1 => [(5, .bool false), (4, .slice none 0 0)]) (fun φ1 => []) (fun φ1 => []) s trivial (fun φ1 => by kernel_rfl) ?_
  intro φ1 w1 s
  refine ops_done (by kernel_rfl) ?_
  refine wp_seq ?_
  refine wp_seq ?_
  refine region_rule ?_
  refine ops_rule (C := []) [] [] 2 [] 0 (fun φ2 => [(7, .bool false), (6, .pointer (some ⟨d, 0, none⟩))]) (fun φ2 => []) (fun φ2 => []) s trivial (fun φ2 => by kernel_rfl) ?_
  intro φ2 w2 s
  refine ops_done (by kernel_rfl) ?_
  refine cond_false_rule (b := false) (by kernel_rfl) rfl ?_
  refine wp_skip ?_
  refine wp_seq ?_
  have hH3 := IM.Le.refl I
  refine held_begin (n := 15) (SubS I) (by kernel_rfl) (by kernel_rfl) ?_
  replace s := St.drew s
  refine held_take (fuel := 14) [] [] 0 (.pointer (some ⟨d, 0, none⟩)) (some 8) [] (I := I) trivial (by kernel_rfl) (by kernel_rfl) (by kernel_rfl) (by kernel_rfl) (by kernel_rfl) (fun _ d' _ _ _ h => by cases d' <;> exact h) (by kernel_rfl) (by kernel_rfl) s.sub ?_
  refine held_take (fuel := 13) [] [] 1 (.pointer (some ⟨d, 0, none⟩)) (some 9) [] (I := I) trivial (by kernel_rfl) (by kernel_rfl) (by kernel_rfl) (by kernel_rfl) (by kernel_rfl) (fun _ d' _ _ _ h => by cases d' <;> exact h) (by kernel_rfl) (by kernel_rfl) s.sub ?_
  refine held_take (fuel := 12) [] [] 2 (.pointer (some ⟨d, 0, none⟩)) (some 10) [] (I := I) trivial (by kernel_rfl) (by kernel_rfl) (by kernel_rfl) (by kernel_rfl) (by kernel_rfl) (fun _ d' _ _ _ h => by cases d' <;> exact h) (by kernel_rfl) (by kernel_rfl) s.sub ?_
  refine held_take (fuel := 11) [(d, .cells #[.map (some m), .int .i64 ((room : Nat) : Int), .int .i64 ((used : Nat) : Int), .bool full, .bool off, .int .i64 ((armed : Nat) : Int), .int .i64 ((torn : Nat) : Int)] 70)] [.c 0] 3 (.map (some m)) (some 11) [d] (I := I) ⟨hd, trivial⟩ (by kernel_rfl) (by kernel_rfl) (by kernel_rfl) (by kernel_rfl) (by kernel_rfl) (fun _ d' _ _ _ h => by cases d' <;> exact h) (by kernel_rfl) (by kernel_rfl) s.sub ?_
  refine held_take (fuel := 10) [] [] 4 (.int .u64 ((k : Nat) : Int)) (some 12) [] (I := I) trivial (by kernel_rfl) (by kernel_rfl) (by kernel_rfl) (by kernel_rfl) (by kernel_rfl) (fun _ d' _ _ _ h => by cases d' <;> exact h) (by kernel_rfl) (by kernel_rfl) s.sub ?_
  refine held_take (fuel := 9) [] [] 7 (.pointer (some ⟨d, 0, none⟩)) (some 15) [] (I := I) trivial (by kernel_rfl) (by kernel_rfl) (by kernel_rfl) (by kernel_rfl) (by kernel_rfl) (fun _ d' _ _ _ h => by cases d' <;> exact h) (by kernel_rfl) (by kernel_rfl) s.sub ?_
  refine held_take (fuel := 8) [] [] 8 (.pointer (some ⟨d, 0, none⟩)) (some 16) [] (I := I) trivial (by kernel_rfl) (by kernel_rfl) (by kernel_rfl) (by kernel_rfl) (by kernel_rfl) (fun _ d' _ _ _ h => by cases d' <;> exact h) (by kernel_rfl) (by kernel_rfl) s.sub ?_
  refine held_take (fuel := 7) [] [] 9 (.pointer (some ⟨d, 0, none⟩)) (some 17) [] (I := I) trivial (by kernel_rfl) (by kernel_rfl) (by kernel_rfl) (by kernel_rfl) (by kernel_rfl) (fun _ d' _ _ _ h => by cases d' <;> exact h) (by kernel_rfl) (by kernel_rfl) s.sub ?_
  refine held_take (fuel := 6) [(d, .cells #[.map (some m), .int .i64 ((room : Nat) : Int), .int .i64 ((used : Nat) : Int), .bool full, .bool off, .int .i64 ((armed : Nat) : Int), .int .i64 ((torn : Nat) : Int)] 70)] [.c 0] 10 (.map (some m)) (some 18) [d] (I := I) ⟨hd, trivial⟩ (by kernel_rfl) (by kernel_rfl) (by kernel_rfl) (by kernel_rfl) (by kernel_rfl) (fun _ d' _ _ _ h => by cases d' <;> exact h) (by kernel_rfl) (by kernel_rfl) s.sub ?_
  refine held_take (fuel := 5) [] [] 11 (.int .u64 ((k : Nat) : Int)) (some 19) [] (I := I) trivial (by kernel_rfl) (by kernel_rfl) (by kernel_rfl) (by kernel_rfl) (by kernel_rfl) (fun _ d' _ _ _ h => by cases d' <;> exact h) (by kernel_rfl) (by kernel_rfl) s.sub ?_
  refine held_ranS (fuel := 4) (Instr.lookup 66 (.map (some m)) (.int .u64 ((k : Nat) : Int)) false) 5 (.slice a0 b.length c0) (some 13) (I := I) (by kernel_rfl) (by kernel_rfl) (by kernel_rfl) (by kernel_rfl) (by kernel_rfl) (fun _ d' _ _ _ h => by cases d' <;> exact h) (by kernel_rfl) (by kernel_rfl) (fun w' hS' => hf _ clk (hS' _ _ hm0)) s.sub ?_
  refine held_one (fuel := 3) 6 (by kernel_rfl) (by kernel_rfl) ?_
  refine callF_rule (H := []) (F := []) (some 14) s (clone_r hb hn) (by kernel_rfl) ?_
  intro v4 I4 w4 F4 le4 h4 s
  replace hb := BSl.mono le4 hb
  replace hH3 := leMono le4 hH3
  replace hd := le4 _ _ hd
  replace hm := le4 _ _ hm
  refine ops_done (by kernel_rfl) ?_
  refine held_next s hH3 ?_
  refine held_one (fuel := 2) 12 (by kernel_rfl) (by kernel_rfl) ?_
  refine call_rule (some 20) s (has_c hm hl) (by kernel_rfl) ?_
  intro v5 I5 w5 le5 h5 s
  replace hb := BSl.mono le5 hb
  replace hH3 := leMono le5 hH3
  replace hd := le5 _ _ hd
  replace hm := le5 _ _ hm
  obtain rfl := h5
  refine ops_done (by kernel_rfl) ?_
  refine held_next s hH3 ?_
  refine held_take (fuel := 1) [] [] 13 (v4) (some 4) [] (I := I) trivial (by kernel_rfl) (by kernel_rfl) (by kernel_rfl) (by kernel_rfl) (by kernel_rfl) (fun _ d' _ _ _ h => by cases d' <;> exact h) (by kernel_rfl) (by kernel_rfl) (fun k o hk => s.sub k o (hH3 k o hk)) ?_
  refine held_take (fuel := 0) [] [] 14 (.bool r) (some 5) [] (I := I) trivial (by kernel_rfl) (by kernel_rfl) (by kernel_rfl) (by kernel_rfl) (by kernel_rfl) (fun _ d' _ _ _ h => by cases d' <;> exact h) (by kernel_rfl) (by kernel_rfl) (fun k o hk => s.sub k o (hH3 k o hk)) ?_
  refine Go.wpAnyH_done (by kernel_rfl) ?_ _
  refine wp_ret ?_
  refine ret_rule (C := []) [] F4 (.tuple #[v4, .bool r]) [] [] s trivial (by kernel_rfl) ?_
  exact ⟨_, _, _, rfl, s, ⟨_, rfl, h4⟩⟩

set_option maxHeartbeats 4000000 in
theorem app_c {I : IM} {d m room used armed torn : Nat} {full off : Bool} {es : List (Nat × List UInt8)} {arr : Array MapEntry} {clk k n : Nat} {F : List OB} {l : List UInt8} {a : Option Addr} {c : Nat} (hl : BSl I l (.slice a n c)) (hM : MapP es arr F) (hu : used ≤ room) (hr : room ≤ 9223372036854775807) (ha : armed ≤ 9223372036854775807) (hb : tot es + l.length ≤ 1000000) : FunM Try.prog 17 #[.pointer (some ⟨d, 0, none⟩), .int .u64 ((k : Nat) : Int), .slice a n c] I ((d, .cells #[.map (some m), .int .i64 ((room : Nat) : Int), .int .i64 ((used : Nat) : Int), .bool full, .bool off, .int .i64 ((armed : Nat) : Int), .int .i64 ((torn : Nat) : Int)] 70) :: (m, .map arr clk) :: F) (fun v J H' => ∃ (d1 m1 : OB) (F' : List OB), H' = d1 :: m1 :: F' ∧ ∃ (arr' : Array MapEntry) (clk' : Nat), d1 = (d, .cells (DS.cells (dApp ⟨es, room, used, full, off, armed, torn⟩ k l).1 m) 70) ∧ m1 = (m, .map arr' clk') ∧ v = .int .i64 (((dApp ⟨es, room, used, full, off, armed, torn⟩ k l).2 : Nat) : Int) ∧ MapP (dApp ⟨es, room, used, full, off, armed, torn⟩ k l).1.es arr' F') := by
  obtain ⟨rfl, -⟩ := hl.cap
  refine enterM_rule 75 [(0, .pointer (some ⟨d, 0, none⟩)), (1, .int .u64 ((k : Nat) : Int)), (2, .slice a l.length c)] Try.func17 rfl (by kernel_rfl) ?_
  intro w s
  refine wp_seq ?_
  refine region_rule ?_
  refine ops_rule (C := []) [(d, .cells #[.map (some m), .int .i64 ((room : Nat) : Int), .int .i64 ((used : Nat) : Int), .bool full, .bool off, .int .i64 ((armed : Nat) : Int), .int .i64 ((torn : Nat) : Int)] 70), (m, .map arr clk)] F 1 [] 0 (fun φ1 => [(6, .int .i64 0)]) (fun φ1 => [(d, .cells #[.map (some m), .int .i64 ((room : Nat) : Int), .int .i64 ((used : Nat) : Int), .bool full, .bool off, .int .i64 ((armed : Nat) : Int), .int .i64 ((torn : Nat) : Int)] 70), (m, .map arr clk)]) (fun φ1 => []) s trivial (fun φ1 => by kernel_rfl) ?_
  intro φ1 w1 s
  refine ops_done (by kernel_rfl) ?_
  refine wp_seq ?_
  refine wp_block ?_
  refine wp_seq ?_
  refine region_rule ?_
  refine ops_rule (C := []) [(d, .cells #[.map (some m), .int .i64 ((room : Nat) : Int), .int .i64 ((used : Nat) : Int), .bool full, .bool off, .int .i64 ((armed : Nat) : Int), .int .i64 ((torn : Nat) : Int)] 70), (m, .map arr clk)] F 3 [] 0 (fun φ2 => [(8, .bool false), (10, .bool false), (9, .pointer (some ⟨d, 0, none⟩))]) (fun φ2 => [(d, .cells #[.map (some m), .int .i64 ((room : Nat) : Int), .int .i64 ((used : Nat) : Int), .bool full, .bool off, .int .i64 ((armed : Nat) : Int), .int .i64 ((torn : Nat) : Int)] 70), (m, .map arr clk)]) (fun φ2 => []) s trivial (fun φ2 => by kernel_rfl) ?_
  intro φ2 w2 s
  refine ops_done (by kernel_rfl) ?_
  refine cond_false_rule (b := false) (by kernel_rfl) rfl ?_
  refine wp_seq ?_
  refine region_rule ?_
  refine ops_rule (C := []) [(d, .cells #[.map (some m), .int .i64 ((room : Nat) : Int), .int .i64 ((used : Nat) : Int), .bool full, .bool off, .int .i64 ((armed : Nat) : Int), .int .i64 ((torn : Nat) : Int)] 70), (m, .map arr clk)] F 6 [.o 0] 0 (fun φ3 => [(11, .bool off), (16, .bool off), (15, .pointer (some ⟨d, 4, none⟩)), (14, .pointer (some ⟨d, 4, none⟩)), (13, .pointer (some ⟨d, 0, none⟩)), (12, .pointer (some ⟨d, 0, none⟩))]) (fun φ3 => [(d, .cells #[.map (some m), .int .i64 ((room : Nat) : Int), .int .i64 ((used : Nat) : Int), .bool full, .bool off, .int .i64 ((armed : Nat) : Int), .int .i64 ((torn : Nat) : Int)] 70), (m, .map arr clk)]) (fun φ3 => [d]) s trivial (fun φ3 => by kernel_rfl) ?_
  intro φ3 w3 s
  refine ops_done (by kernel_rfl) ?_
  rcases Bool.eq_false_or_eq_true (off) with hc4 | hc4
  ·
    rw [hc4]
    rw [hc4] at s
    refine cond_true_rule (b := true) (by kernel_rfl) rfl ?_
    refine wp_seq ?_
    refine region_rule ?_
    refine ops_rule (C := []) [(d, .cells #[.map (some m), .int .i64 ((room : Nat) : Int), .int .i64 ((used : Nat) : Int), .bool full, .bool true, .int .i64 ((armed : Nat) : Int), .int .i64 ((torn : Nat) : Int)] 70), (m, .map arr clk)] F 1 [] 0 (fun φ5 => [(6, .int .i64 10)]) (fun φ5 => [(d, .cells #[.map (some m), .int .i64 ((room : Nat) : Int), .int .i64 ((used : Nat) : Int), .bool full, .bool true, .int .i64 ((armed : Nat) : Int), .int .i64 ((torn : Nat) : Int)] 70), (m, .map arr clk)]) (fun φ5 => []) s trivial (fun φ5 => by kernel_rfl) ?_
    intro φ5 w5 s
    refine ops_done (by kernel_rfl) ?_
    refine wp_ret ?_
    refine ret_rule (C := []) [(d, .cells #[.map (some m), .int .i64 ((room : Nat) : Int), .int .i64 ((used : Nat) : Int), .bool full, .bool true, .int .i64 ((armed : Nat) : Int), .int .i64 ((torn : Nat) : Int)] 70), (m, .map arr clk)] F (.int .i64 10) [] [] s trivial (by kernel_rfl) ?_
    rw [dApp_off]
    exact ⟨_, _, _, rfl, s, ⟨_, _, _, rfl, _, _, rfl, rfl, rfl, hM⟩⟩
  ·
    rw [hc4]
    rw [hc4] at s
    refine cond_false_rule (b := false) (by kernel_rfl) rfl ?_
    refine wp_seq ?_
    rcases Bool.eq_false_or_eq_true (full) with hc6 | hc6
    ·
      rw [hc6]
      rw [hc6] at s
      refine drawK_rule (C := []) ⟨(fun φ7 xs7 => [.look 0 [] [], .look 0 [] [], .look 0 [] [], .look 0 [.o 0] [d], .look 0 [] [], .skip, .skip, .skip, .skip, .skip, .skip, .skip, .skip, .skip, .skip, .skip, .skip, .look 0 [] [], .look 0 [] []]), (fun φ7 xs7 => [.pointer (some ⟨d, 0, none⟩), .pointer (some ⟨d, 0, none⟩), .pointer (some ⟨d, 3, none⟩), .bool true, .bool true, undef, undef, undef, undef, undef, undef, undef, undef, undef, undef, undef, undef, .bool true, .bool true]), (fun φ7 xs7 => [[(d, .cells #[.map (some m), .int .i64 ((room : Nat) : Int), .int .i64 ((used : Nat) : Int), .bool true, .bool false, .int .i64 ((armed : Nat) : Int), .int .i64 ((torn : Nat) : Int)] 70), (m, .map arr clk)]]), (fun φ7 xs7 => [[default, default, default, default, default, default, default, default, default, default, default, default, default, default, default, default, default, default, default]]), [], [1, 1, 1, 1, 1, 0, 0, 0, 0, 0, 0, 0, 0, 0, 0, 0, 0, 1, 1]⟩ (fun j => ([MP.any, MP.any, MP.any, MP.any, MP.any, MP.any, MP.any, MP.any, MP.any, MP.any, MP.any, MP.any, MP.any, MP.any, MP.any, MP.any, MP.any, MP.any, MP.any] : List MP).getD j MP.any) F [] [] [] (fun φ7 xs7 => []) (fun φ7 xs7 => [(18, .pointer (some ⟨d, 0, none⟩)), (19, .pointer (some ⟨d, 0, none⟩)), (20, .pointer (some ⟨d, 3, none⟩)), (21, .bool true), (22, .bool true), (23, undef), (24, undef), (25, undef), (26, undef), (27, undef), (28, undef), (29, undef), (30, undef), (31, undef), (32, undef), (33, undef), (34, undef), (35, .bool true), (17, .bool true)]) (fun φ7 xs7 => [(d, .cells #[.map (some m), .int .i64 ((room : Nat) : Int), .int .i64 ((used : Nat) : Int), .bool true, .bool false, .int .i64 ((armed : Nat) : Int), .int .i64 ((torn : Nat) : Int)] 70), (m, .map arr clk)]) s trivial (by kernel_rfl) (by kernel_rfl) (fun _ _ => by kernel_rfl) (fun _ _ => by kernel_rfl) ⟨fun _ _ => by kernel_rfl, fun _ _ => by kernel_rfl, fun _ _ => by kernel_rfl, fun _ _ => by kernel_rfl⟩ (fun _ _ _ => by kernel_rfl) (fun _ _ => by kernel_rfl) (fun _ _ => by kernel_rfl) (fun _ _ => by kernel_rfl) (fun _ _ => by kernel_rfl) (fun _ _ => by kernel_rfl) trivial trivial (by kernel_rfl) trivial ?k7
      case k7 =>
        rintro φ7 xs7 I7 w7 le7 s 
        replace hl := BSl.mono le7 hl
        refine cond_true_rule (b := true) (by kernel_rfl) rfl ?_
        refine wp_seq ?_
        refine region_rule ?_
        refine ops_rule (C := []) [(d, .cells #[.map (some m), .int .i64 ((room : Nat) : Int), .int .i64 ((used : Nat) : Int), .bool true, .bool false, .int .i64 ((armed : Nat) : Int), .int .i64 ((torn : Nat) : Int)] 70), (m, .map arr clk)] F 1 [] 0 (fun φ8 => [(6, .int .i64 8)]) (fun φ8 => [(d, .cells #[.map (some m), .int .i64 ((room : Nat) : Int), .int .i64 ((used : Nat) : Int), .bool true, .bool false, .int .i64 ((armed : Nat) : Int), .int .i64 ((torn : Nat) : Int)] 70), (m, .map arr clk)]) (fun φ8 => []) s trivial (fun φ8 => by kernel_rfl) ?_
        intro φ8 w8 s
        refine ops_done (by kernel_rfl) ?_
        refine wp_ret ?_
        refine ret_rule (C := []) [(d, .cells #[.map (some m), .int .i64 ((room : Nat) : Int), .int .i64 ((used : Nat) : Int), .bool true, .bool false, .int .i64 ((armed : Nat) : Int), .int .i64 ((torn : Nat) : Int)] 70), (m, .map arr clk)] F (.int .i64 8) [] [] s trivial (by kernel_rfl) ?_
        rw [dApp_full (.inl rfl)]
        exact ⟨_, _, _, rfl, s, ⟨_, _, _, rfl, _, _, rfl, rfl, rfl, hM⟩⟩
    ·
      rw [hc6]
      rw [hc6] at s
      refine drawK_rule (C := []) ⟨(fun φ9 xs9 => [.look 0 [] [], .look 0 [] [], .look 0 [] [], .look 0 [.o 0] [d], .look 0 [] [], .look 0 [] [], .look 0 [] [], .look 0 [] [], .look 0 [] [], .look 0 [] [], .look 0 [.o 0] [d], .look 0 [] [], .look 0 [] [], .look 0 [] [], .look 0 [.o 0] [d], .sub 0 [] [] (.int .i64 (IntKind.wrap .i64 (((room : Nat) : Int) - ((used : Nat) : Int)))), .sub 0 [] [] (.bool (decide (((l.length : Nat) : Int) > ((room - used : Nat) : Int)))), .look 0 [] [], .look 0 [] []]), (fun φ9 xs9 => [.pointer (some ⟨d, 0, none⟩), .pointer (some ⟨d, 0, none⟩), .pointer (some ⟨d, 3, none⟩), .bool false, .bool false, .slice a l.length c, .int .i64 ((l.length : Nat) : Int), .pointer (some ⟨d, 0, none⟩), .pointer (some ⟨d, 0, none⟩), .pointer (some ⟨d, 1, none⟩), .int .i64 ((room : Nat) : Int), .pointer (some ⟨d, 0, none⟩), .pointer (some ⟨d, 0, none⟩), .pointer (some ⟨d, 2, none⟩), .int .i64 ((used : Nat) : Int), .int .i64 ((room - used : Nat) : Int), .bool (decide ((room - used) < l.length)), .bool (decide ((room - used) < l.length)), .bool (decide ((room - used) < l.length))]), (fun φ9 xs9 => [[(d, .cells #[.map (some m), .int .i64 ((room : Nat) : Int), .int .i64 ((used : Nat) : Int), .bool false, .bool false, .int .i64 ((armed : Nat) : Int), .int .i64 ((torn : Nat) : Int)] 70), (m, .map arr clk)]]), (fun φ9 xs9 => [[default, default, default, default, default, default, default, default, default, default, default, default, default, default, default, default, default, default, default]]), [], [1, 1, 1, 1, 1, 1, 1, 1, 1, 1, 1, 1, 1, 1, 1, 5, 5, 1, 1]⟩ (fun j => ([MP.any, MP.any, MP.any, MP.any, MP.any, MP.any, MP.any, MP.any, MP.any, MP.any, MP.any, MP.any, MP.any, MP.any, MP.any, MP.any, MP.any, MP.any, MP.any] : List MP).getD j MP.any) F [] [15, 16] [] (fun φ9 xs9 => []) (fun φ9 xs9 => [(18, .pointer (some ⟨d, 0, none⟩)), (19, .pointer (some ⟨d, 0, none⟩)), (20, .pointer (some ⟨d, 3, none⟩)), (21, .bool false), (22, .bool false), (23, .slice a l.length c), (24, .int .i64 ((l.length : Nat) : Int)), (25, .pointer (some ⟨d, 0, none⟩)), (26, .pointer (some ⟨d, 0, none⟩)), (27, .pointer (some ⟨d, 1, none⟩)), (28, .int .i64 ((room : Nat) : Int)), (29, .pointer (some ⟨d, 0, none⟩)), (30, .pointer (some ⟨d, 0, none⟩)), (31, .pointer (some ⟨d, 2, none⟩)), (32, .int .i64 ((used : Nat) : Int)), (33, .int .i64 ((room - used : Nat) : Int)), (34, .bool (decide ((room - used) < l.length))), (35, .bool (decide ((room - used) < l.length))), (17, .bool (decide ((room - used) < l.length)))]) (fun φ9 xs9 => [(d, .cells #[.map (some m), .int .i64 ((room : Nat) : Int), .int .i64 ((used : Nat) : Int), .bool false, .bool false, .int .i64 ((armed : Nat) : Int), .int .i64 ((torn : Nat) : Int)] 70), (m, .map arr clk)]) s trivial (by kernel_rfl) (by kernel_rfl) (fun _ _ => by kernel_rfl) (fun _ _ => by kernel_rfl) ⟨fun _ _ => by kernel_rfl, fun _ _ => by kernel_rfl, fun _ _ => by kernel_rfl, fun _ _ => by kernel_rfl⟩ (fun _ _ _ => by kernel_rfl) (fun _ _ => by kernel_rfl) (fun _ _ => by kernel_rfl) (fun _ _ => by kernel_rfl) (fun _ _ => by kernel_rfl) (fun _ _ => by kernel_rfl) ⟨kcast (A := ∀ (φ9 : Nat → Nat) (xs9 : Xs), (.int .i64 (IntKind.wrap .i64 (((room : Nat) : Int) - ((used : Nat) : Int))) : Value) = .int .i64 ((room - used : Nat) : Int)) (by kernel_rfl) (fun φ9 xs9 => congrArg (Value.int .i64) ((nat_subI (a := room) (b := used) (by have hlb := hb;  omega) (by have hlb := hb;  omega)))), ⟨kcast (A := ∀ (φ9 : Nat → Nat) (xs9 : Xs), (.bool (decide (((l.length : Nat) : Int) > ((room - used : Nat) : Int))) : Value) = .bool (decide ((room - used) < l.length))) (by kernel_rfl) (fun φ9 xs9 => congrArg Value.bool ((nat_gtr (a := l.length) (b := (room - used))))), trivial⟩⟩ trivial (by kernel_rfl) trivial ?k9
      case k9 =>
        rintro φ9 xs9 I9 w9 le9 s 
        replace hl := BSl.mono le9 hl
        rcases Bool.eq_false_or_eq_true (decide ((room - used) < l.length)) with hc10 | hc10
        ·
          rw [hc10]
          refine cond_true_rule (b := true) (by kernel_rfl) rfl ?_
          refine wp_seq ?_
          refine region_rule ?_
          refine ops_rule (C := []) [(d, .cells #[.map (some m), .int .i64 ((room : Nat) : Int), .int .i64 ((used : Nat) : Int), .bool false, .bool false, .int .i64 ((armed : Nat) : Int), .int .i64 ((torn : Nat) : Int)] 70), (m, .map arr clk)] F 1 [] 0 (fun φ11 => [(6, .int .i64 8)]) (fun φ11 => [(d, .cells #[.map (some m), .int .i64 ((room : Nat) : Int), .int .i64 ((used : Nat) : Int), .bool false, .bool false, .int .i64 ((armed : Nat) : Int), .int .i64 ((torn : Nat) : Int)] 70), (m, .map arr clk)]) (fun φ11 => []) s trivial (fun φ11 => by kernel_rfl) ?_
          intro φ11 w11 s
          refine ops_done (by kernel_rfl) ?_
          refine wp_ret ?_
          refine ret_rule (C := []) [(d, .cells #[.map (some m), .int .i64 ((room : Nat) : Int), .int .i64 ((used : Nat) : Int), .bool false, .bool false, .int .i64 ((armed : Nat) : Int), .int .i64 ((torn : Nat) : Int)] 70), (m, .map arr clk)] F (.int .i64 8) [] [] s trivial (by kernel_rfl) ?_
          rw [dApp_full (.inr (of_decide_eq_true hc10))]
          exact ⟨_, _, _, rfl, s, ⟨_, _, _, rfl, _, _, rfl, rfl, rfl, hM⟩⟩
        ·
          rw [hc10]
          refine cond_false_rule (b := false) (by kernel_rfl) rfl ?_
          refine wp_skip ?_
          refine wp_seq ?_
          refine region_rule ?_
          refine ops_rule (C := []) [(d, .cells #[.map (some m), .int .i64 ((room : Nat) : Int), .int .i64 ((used : Nat) : Int), .bool false, .bool false, .int .i64 ((armed : Nat) : Int), .int .i64 ((torn : Nat) : Int)] 70), (m, .map arr clk)] F 3 [] 0 (fun φ12 => [(38, .pointer (some ⟨d, 4, none⟩)), (37, .pointer (some ⟨d, 0, none⟩)), (36, .pointer (some ⟨d, 0, none⟩))]) (fun φ12 => [(d, .cells #[.map (some m), .int .i64 ((room : Nat) : Int), .int .i64 ((used : Nat) : Int), .bool false, .bool false, .int .i64 ((armed : Nat) : Int), .int .i64 ((torn : Nat) : Int)] 70), (m, .map arr clk)]) (fun φ12 => []) s trivial (fun φ12 => by kernel_rfl) ?_
          intro φ12 w12 s
          refine callB_rule (b := (d, .cells #[.map (some m), .int .i64 ((room : Nat) : Int), .int .i64 ((used : Nat) : Int), .bool false, .bool false, .int .i64 ((armed : Nat) : Int), .int .i64 ((torn : Nat) : Int)] 70)) (H := [(d, .cells #[.map (some m), .int .i64 ((room : Nat) : Int), .int .i64 ((used : Nat) : Int), .bool false, .bool false, .int .i64 ((armed : Nat) : Int), .int .i64 ((torn : Nat) : Int)] 70), (m, .map arr clk)]) (F := F) (Hr := [(m, .map arr clk)]) (some 39) 0 s (by kernel_rfl) (by kernel_rfl) (count_c (d := d) (full := false) ha) (by kernel_rfl) ?_
          rintro v13 I13 w13 b13 le13 - h13 s
          replace hl := BSl.mono le13 hl
          obtain ⟨rfl, rfl⟩ := h13
          refine ops_rule (C := []) [(d, .cells #[.map (some m), .int .i64 ((room : Nat) : Int), .int .i64 ((used : Nat) : Int), .bool false, .bool (decide (armed = 1)), .int .i64 ((armed - 1 : Nat) : Int), .int .i64 ((torn : Nat) : Int)] 70), (m, .map arr clk)] F 1 [] 0 (fun φ14 => [(7, .int .i64 ((cntE armed : Nat) : Int))]) (fun φ14 => [(d, .cells #[.map (some m), .int .i64 ((room : Nat) : Int), .int .i64 ((used : Nat) : Int), .bool false, .bool (decide (armed = 1)), .int .i64 ((armed - 1 : Nat) : Int), .int .i64 ((torn : Nat) : Int)] 70), (m, .map arr clk)]) (fun φ14 => []) s trivial (fun φ14 => by kernel_rfl) ?_
          intro φ14 w14 s
          refine ops_done (by kernel_rfl) ?_
          refine wp_seq ?_
          refine wp_seq ?_
          refine region_rule ?_
          refine ops_rule (C := []) [(d, .cells #[.map (some m), .int .i64 ((room : Nat) : Int), .int .i64 ((used : Nat) : Int), .bool false, .bool (decide (armed = 1)), .int .i64 ((armed - 1 : Nat) : Int), .int .i64 ((torn : Nat) : Int)] 70), (m, .map arr clk)] F 2 [] 0 (fun φ15 => [(41, .bool (((cntE armed : Nat) : Int) != ((0 : Nat) : Int))), (40, .int .i64 ((cntE armed : Nat) : Int))]) (fun φ15 => [(d, .cells #[.map (some m), .int .i64 ((room : Nat) : Int), .int .i64 ((used : Nat) : Int), .bool false, .bool (decide (armed = 1)), .int .i64 ((armed - 1 : Nat) : Int), .int .i64 ((torn : Nat) : Int)] 70), (m, .map arr clk)]) (fun φ15 => []) s trivial (fun φ15 => by kernel_rfl) ?_
          intro φ15 w15 s
          rw [nat_neq (a := (cntE armed)) (b := 0)]
          refine ops_done (by kernel_rfl) ?_
          rcases Bool.eq_false_or_eq_true (decide ((cntE armed) ≠ 0)) with hc16 | hc16
          ·
            rw [hc16]
            refine cond_true_rule (b := true) (by kernel_rfl) rfl ?_
            refine region_rule ?_
            refine ops_rule (C := []) [(d, .cells #[.map (some m), .int .i64 ((room : Nat) : Int), .int .i64 ((used : Nat) : Int), .bool false, .bool (decide (armed = 1)), .int .i64 ((armed - 1 : Nat) : Int), .int .i64 ((torn : Nat) : Int)] 70), (m, .map arr clk)] F 9 [.o 0] 0 (fun φ17 => [(50, .int .i64 (if ((l.length : Nat) : Int) < ((torn : Nat) : Int) then ((l.length : Nat) : Int) else ((torn : Nat) : Int))), (49, .int .i64 ((l.length : Nat) : Int)), (48, .slice a l.length c), (47, .int .i64 ((torn : Nat) : Int)), (46, .pointer (some ⟨d, 6, none⟩)), (45, .pointer (some ⟨d, 4, none⟩)), (44, .pointer (some ⟨d, 0, none⟩)), (43, .pointer (some ⟨d, 0, none⟩)), (42, .slice a l.length c)]) (fun φ17 => [(d, .cells #[.map (some m), .int .i64 ((room : Nat) : Int), .int .i64 ((used : Nat) : Int), .bool false, .bool (decide (armed = 1)), .int .i64 ((armed - 1 : Nat) : Int), .int .i64 ((torn : Nat) : Int)] 70), (m, .map arr clk)]) (fun φ17 => [d]) s trivial (fun φ17 => by kernel_rfl) ?_
            intro φ17 w17 s
            rw [nat_min (a := torn) (b := l.length)]
            refine sem_rule (Instr.sliceAt 29 (.slice a l.length c) none (some (.int .i64 ((min torn l.length : Nat) : Int))) none) (some 51) (.slice a (min torn l.length) c) (by kernel_rfl) (run_to (by have hcp := (BSl.cap hl).2; (try simp only [List.length_drop, List.length_take, List.length_append, List.length_cons, List.length_nil] at hcp ⊢); have hlb := hb; have hq2 := of_decide_eq_false hc10; have hq3 := of_decide_eq_true hc16; (try simp only [List.length_drop, List.length_take, List.length_append, List.length_cons, List.length_nil]); omega)) ?_
            refine ops_rule (C := []) [(d, .cells #[.map (some m), .int .i64 ((room : Nat) : Int), .int .i64 ((used : Nat) : Int), .bool false, .bool (decide (armed = 1)), .int .i64 ((armed - 1 : Nat) : Int), .int .i64 ((torn : Nat) : Int)] 70), (m, .map arr clk)] F 1 [] 0 (fun φ18 => [(2, .slice a (min torn l.length) c)]) (fun φ18 => [(d, .cells #[.map (some m), .int .i64 ((room : Nat) : Int), .int .i64 ((used : Nat) : Int), .bool false, .bool (decide (armed = 1)), .int .i64 ((armed - 1 : Nat) : Int), .int .i64 ((torn : Nat) : Int)] 70), (m, .map arr clk)]) (fun φ18 => []) s trivial (fun φ18 => by kernel_rfl) ?_
            intro φ18 w18 s
            refine ops_done (by kernel_rfl) ?_
            refine wp_seq ?_
            obtain ⟨v0, Fe, Fr, hp0, hr0, hlk0, -, hup0⟩ := map_open hM m k
            replace s := s.perm (List.Perm.append_left [(d, .cells #[.map (some m), .int .i64 ((room : Nat) : Int), .int .i64 ((used : Nat) : Int), .bool false, .bool (decide (armed = 1)), .int .i64 ((armed - 1 : Nat) : Int), .int .i64 ((torn : Nat) : Int)] 70), (m, .map arr clk)] hp0)
            have hL19 : ∀ e ∈ [(d, .cells #[.map (some m), .int .i64 ((room : Nat) : Int), .int .i64 ((used : Nat) : Int), .bool false, .bool (decide (armed = 1)), .int .i64 ((armed - 1 : Nat) : Int), .int .i64 ((torn : Nat) : Int)] 70), (m, .map arr clk)], e ∈ [(d, .cells #[.map (some m), .int .i64 ((room : Nat) : Int), .int .i64 ((used : Nat) : Int), .bool false, .bool (decide (armed = 1)), .int .i64 ((armed - 1 : Nat) : Int), .int .i64 ((torn : Nat) : Int)] 70), (m, .map arr clk)] ++ (Fr ++ Fe) := fun e he => List.mem_append_left _ he
            have hg19d := all_get s hL19 ((d, .cells #[.map (some m), .int .i64 ((room : Nat) : Int), .int .i64 ((used : Nat) : Int), .bool false, .bool (decide (armed = 1)), .int .i64 ((armed - 1 : Nat) : Int), .int .i64 ((torn : Nat) : Int)] 70)) (by simp)
            have hg19m := all_get s hL19 ((m, .map arr clk)) (by simp)
            refine region_lastH 13 (SubS (IM.all I13 [(d, .cells #[.map (some m), .int .i64 ((room : Nat) : Int), .int .i64 ((used : Nat) : Int), .bool false, .bool (decide (armed = 1)), .int .i64 ((armed - 1 : Nat) : Int), .int .i64 ((torn : Nat) : Int)] 70), (m, .map arr clk)])) _ _ (by kernel_rfl) (last_split 13 (by kernel_rfl)) (by kernel_rfl) (by kernel_rfl) ?_
            replace s := St.drew s
            refine held_take (fuel := 12) [] [] 0 (.pointer (some ⟨d, 0, none⟩)) (some 52) [] (I := (IM.all I13 [(d, .cells #[.map (some m), .int .i64 ((room : Nat) : Int), .int .i64 ((used : Nat) : Int), .bool false, .bool (decide (armed = 1)), .int .i64 ((armed - 1 : Nat) : Int), .int .i64 ((torn : Nat) : Int)] 70), (m, .map arr clk)])) trivial (by kernel_rfl) (by kernel_rfl) (by kernel_rfl) (by kernel_rfl) (by kernel_rfl) (fun _ d' _ _ _ h => by cases d' <;> exact h) (by kernel_rfl) (by kernel_rfl) (all_subW s hL19) ?_
            refine held_take (fuel := 11) [] [] 1 (.pointer (some ⟨d, 0, none⟩)) (some 53) [] (I := (IM.all I13 [(d, .cells #[.map (some m), .int .i64 ((room : Nat) : Int), .int .i64 ((used : Nat) : Int), .bool false, .bool (decide (armed = 1)), .int .i64 ((armed - 1 : Nat) : Int), .int .i64 ((torn : Nat) : Int)] 70), (m, .map arr clk)])) trivial (by kernel_rfl) (by kernel_rfl) (by kernel_rfl) (by kernel_rfl) (by kernel_rfl) (fun _ d' _ _ _ h => by cases d' <;> exact h) (by kernel_rfl) (by kernel_rfl) (all_subW s hL19) ?_
            refine held_take (fuel := 10) [] [] 2 (.pointer (some ⟨d, 0, none⟩)) (some 54) [] (I := (IM.all I13 [(d, .cells #[.map (some m), .int .i64 ((room : Nat) : Int), .int .i64 ((used : Nat) : Int), .bool false, .bool (decide (armed = 1)), .int .i64 ((armed - 1 : Nat) : Int), .int .i64 ((torn : Nat) : Int)] 70), (m, .map arr clk)])) trivial (by kernel_rfl) (by kernel_rfl) (by kernel_rfl) (by kernel_rfl) (by kernel_rfl) (fun _ d' _ _ _ h => by cases d' <;> exact h) (by kernel_rfl) (by kernel_rfl) (all_subW s hL19) ?_
            refine held_take (fuel := 9) [(d, .cells #[.map (some m), .int .i64 ((room : Nat) : Int), .int .i64 ((used : Nat) : Int), .bool false, .bool (decide (armed = 1)), .int .i64 ((armed - 1 : Nat) : Int), .int .i64 ((torn : Nat) : Int)] 70)] [.c 0] 3 (.map (some m)) (some 55) [d] (I := (IM.all I13 [(d, .cells #[.map (some m), .int .i64 ((room : Nat) : Int), .int .i64 ((used : Nat) : Int), .bool false, .bool (decide (armed = 1)), .int .i64 ((armed - 1 : Nat) : Int), .int .i64 ((torn : Nat) : Int)] 70), (m, .map arr clk)])) ⟨hg19d, trivial⟩ (by kernel_rfl) (by kernel_rfl) (by kernel_rfl) (by kernel_rfl) (by kernel_rfl) (fun _ d' _ _ _ h => by cases d' <;> exact h) (by kernel_rfl) (by kernel_rfl) (all_subW s hL19) ?_
            refine held_take (fuel := 8) [] [] 4 (.int .u64 ((k : Nat) : Int)) (some 56) [] (I := (IM.all I13 [(d, .cells #[.map (some m), .int .i64 ((room : Nat) : Int), .int .i64 ((used : Nat) : Int), .bool false, .bool (decide (armed = 1)), .int .i64 ((armed - 1 : Nat) : Int), .int .i64 ((torn : Nat) : Int)] 70), (m, .map arr clk)])) trivial (by kernel_rfl) (by kernel_rfl) (by kernel_rfl) (by kernel_rfl) (by kernel_rfl) (fun _ d' _ _ _ h => by cases d' <;> exact h) (by kernel_rfl) (by kernel_rfl) (all_subW s hL19) ?_
            refine held_take (fuel := 7) [] [] 5 (.pointer (some ⟨d, 0, none⟩)) (some 57) [] (I := (IM.all I13 [(d, .cells #[.map (some m), .int .i64 ((room : Nat) : Int), .int .i64 ((used : Nat) : Int), .bool false, .bool (decide (armed = 1)), .int .i64 ((armed - 1 : Nat) : Int), .int .i64 ((torn : Nat) : Int)] 70), (m, .map arr clk)])) trivial (by kernel_rfl) (by kernel_rfl) (by kernel_rfl) (by kernel_rfl) (by kernel_rfl) (fun _ d' _ _ _ h => by cases d' <;> exact h) (by kernel_rfl) (by kernel_rfl) (all_subW s hL19) ?_
            refine held_take (fuel := 6) [] [] 6 (.pointer (some ⟨d, 0, none⟩)) (some 58) [] (I := (IM.all I13 [(d, .cells #[.map (some m), .int .i64 ((room : Nat) : Int), .int .i64 ((used : Nat) : Int), .bool false, .bool (decide (armed = 1)), .int .i64 ((armed - 1 : Nat) : Int), .int .i64 ((torn : Nat) : Int)] 70), (m, .map arr clk)])) trivial (by kernel_rfl) (by kernel_rfl) (by kernel_rfl) (by kernel_rfl) (by kernel_rfl) (fun _ d' _ _ _ h => by cases d' <;> exact h) (by kernel_rfl) (by kernel_rfl) (all_subW s hL19) ?_
            refine held_take (fuel := 5) [] [] 7 (.pointer (some ⟨d, 0, none⟩)) (some 59) [] (I := (IM.all I13 [(d, .cells #[.map (some m), .int .i64 ((room : Nat) : Int), .int .i64 ((used : Nat) : Int), .bool false, .bool (decide (armed = 1)), .int .i64 ((armed - 1 : Nat) : Int), .int .i64 ((torn : Nat) : Int)] 70), (m, .map arr clk)])) trivial (by kernel_rfl) (by kernel_rfl) (by kernel_rfl) (by kernel_rfl) (by kernel_rfl) (fun _ d' _ _ _ h => by cases d' <;> exact h) (by kernel_rfl) (by kernel_rfl) (all_subW s hL19) ?_
            refine held_take (fuel := 4) [(d, .cells #[.map (some m), .int .i64 ((room : Nat) : Int), .int .i64 ((used : Nat) : Int), .bool false, .bool (decide (armed = 1)), .int .i64 ((armed - 1 : Nat) : Int), .int .i64 ((torn : Nat) : Int)] 70)] [.c 0] 8 (.map (some m)) (some 60) [d] (I := (IM.all I13 [(d, .cells #[.map (some m), .int .i64 ((room : Nat) : Int), .int .i64 ((used : Nat) : Int), .bool false, .bool (decide (armed = 1)), .int .i64 ((armed - 1 : Nat) : Int), .int .i64 ((torn : Nat) : Int)] 70), (m, .map arr clk)])) ⟨hg19d, trivial⟩ (by kernel_rfl) (by kernel_rfl) (by kernel_rfl) (by kernel_rfl) (by kernel_rfl) (fun _ d' _ _ _ h => by cases d' <;> exact h) (by kernel_rfl) (by kernel_rfl) (all_subW s hL19) ?_
            refine held_take (fuel := 3) [] [] 9 (.int .u64 ((k : Nat) : Int)) (some 61) [] (I := (IM.all I13 [(d, .cells #[.map (some m), .int .i64 ((room : Nat) : Int), .int .i64 ((used : Nat) : Int), .bool false, .bool (decide (armed = 1)), .int .i64 ((armed - 1 : Nat) : Int), .int .i64 ((torn : Nat) : Int)] 70), (m, .map arr clk)])) trivial (by kernel_rfl) (by kernel_rfl) (by kernel_rfl) (by kernel_rfl) (by kernel_rfl) (fun _ d' _ _ _ h => by cases d' <;> exact h) (by kernel_rfl) (by kernel_rfl) (all_subW s hL19) ?_
            refine held_take (fuel := 2) [] [] 11 (.slice a (min torn l.length) c) (some 63) [] (I := (IM.all I13 [(d, .cells #[.map (some m), .int .i64 ((room : Nat) : Int), .int .i64 ((used : Nat) : Int), .bool false, .bool (decide (armed = 1)), .int .i64 ((armed - 1 : Nat) : Int), .int .i64 ((torn : Nat) : Int)] 70), (m, .map arr clk)])) trivial (by kernel_rfl) (by kernel_rfl) (by kernel_rfl) (by kernel_rfl) (by kernel_rfl) (fun _ d' _ _ _ h => by cases d' <;> exact h) (by kernel_rfl) (by kernel_rfl) (all_subW s hL19) ?_
            refine held_ranS (fuel := 1) (Instr.lookup 66 (.map (some m)) (.int .u64 ((k : Nat) : Int)) false) 10 (v0) (some 62) (I := (IM.all I13 [(d, .cells #[.map (some m), .int .i64 ((room : Nat) : Int), .int .i64 ((used : Nat) : Int), .bool false, .bool (decide (armed = 1)), .int .i64 ((armed - 1 : Nat) : Int), .int .i64 ((torn : Nat) : Int)] 70), (m, .map arr clk)])) (by kernel_rfl) (by kernel_rfl) (by kernel_rfl) (by kernel_rfl) (by kernel_rfl) (fun _ d' _ _ _ h => by cases d' <;> exact h) (by kernel_rfl) (by kernel_rfl) (fun w' hS' => hlk0 _ clk (hS' _ _ hg19m)) (all_subW s hL19) ?_
            refine held_one (fuel := 0) 12 (by kernel_rfl) (by kernel_rfl) ?_
            refine append_rule (H := [(d, .cells #[.map (some m), .int .i64 ((room : Nat) : Int), .int .i64 ((used : Nat) : Int), .bool false, .bool (decide (armed = 1)), .int .i64 ((armed - 1 : Nat) : Int), .int .i64 ((torn : Nat) : Int)] 70), (m, .map arr clk)] ++ Fr) (F := Fe) 29 29 5 Try.t5 (.int .u8 0) 1 1 (some 64) (St.perm s (by rw [List.append_assoc])) Try.underlying29 (by kernel_rfl) (by kernel_rfl) (by kernel_rfl) (by kernel_rfl) (by kernel_rfl) (by decide) hr0 (src_bsl s.sub (bsl_to (hi := min torn l.length) hl (by have hcp := (BSl.cap hl).2; (try simp only [List.length_drop, List.length_take, List.length_append, List.length_cons, List.length_nil] at hcp ⊢); have hlb := hb; have hq2 := of_decide_eq_false hc10; have hq3 := of_decide_eq_true hc16; (try simp only [List.length_drop, List.length_take, List.length_append, List.length_cons, List.length_nil]); omega))) (by have h7 := tot_get es k; (try simp only [maxLen, List.length_take]); omega) (by have h7 := tot_get es k; (try simp only [maxLen, List.length_take]); omega) (by kernel_rfl) ?_
            intro v19 w19 F19 s h19
            replace s : St _ _ _ _ _ ([(d, .cells #[.map (some m), .int .i64 ((room : Nat) : Int), .int .i64 ((used : Nat) : Int), .bool false, .bool (decide (armed = 1)), .int .i64 ((armed - 1 : Nat) : Int), .int .i64 ((torn : Nat) : Int)] 70), (m, .map arr clk)] ++ (Fr ++ F19)) := s.perm (by rw [List.append_assoc])
            replace h19 : RowH 5 1 v19 (((mget es k).getD []) ++ (l.take (min torn l.length))).length ((((mget es k).getD []) ++ (l.take (min torn l.length))).map bV) F19 := row_app (x := ((mget es k).getD [])) (y := (l.take (min torn l.length))) h19
            refine ops_done (by kernel_rfl) ?_
            refine held_nextS (all_subW s (fun e he => List.mem_append_left _ he)) ?_
            refine Go.wpAnyH_done (by kernel_rfl) ?_ _
            refine qn_normal ?_
            obtain ⟨arr', clk', hM', hup⟩ := hup0 clk v19 _ F19 h19
            refine last_rule (Instr.mapUpdate 66 (.map (some m)) (.int .u64 ((k : Nat) : Int)) v19) rfl (by kernel_rfl) (by kernel_rfl) (hup _ (s.own (m, .map arr clk) (by simp))) ?_
            replace s : St _ _ _ _ _ ([(d, .cells #[.map (some m), .int .i64 ((room : Nat) : Int), .int .i64 ((used : Nat) : Int), .bool false, .bool (decide (armed = 1)), .int .i64 ((armed - 1 : Nat) : Int), .int .i64 ((torn : Nat) : Int)] 70), (m, .map arr' clk')] ++ (Fr ++ F19)) := St.setB s (i := 1) rfl
            refine wp_seq ?_
            refine region_rule ?_
            refine ops_rule (C := []) [(d, .cells #[.map (some m), .int .i64 ((room : Nat) : Int), .int .i64 ((used : Nat) : Int), .bool false, .bool (decide (armed = 1)), .int .i64 ((armed - 1 : Nat) : Int), .int .i64 ((torn : Nat) : Int)] 70), (m, .map arr' clk')] (Fr ++ F19) 10 [.o 0, .o 0] 0 (fun φ20 => [(73, .pointer (some ⟨d, 2, none⟩)), (72, .pointer (some ⟨d, 0, none⟩)), (71, .int .i64 (IntKind.wrap .i64 (((used : Nat) : Int) + (((min torn l.length) : Nat) : Int)))), (70, .int .i64 (((min torn l.length) : Nat) : Int)), (69, .slice a (min torn l.length) c), (68, .int .i64 ((used : Nat) : Int)), (67, .pointer (some ⟨d, 2, none⟩)), (66, .pointer (some ⟨d, 0, none⟩)), (65, .pointer (some ⟨d, 0, none⟩))]) (fun φ20 => [(d, .cells #[.map (some m), .int .i64 ((room : Nat) : Int), .int .i64 (IntKind.wrap .i64 (((used : Nat) : Int) + (((min torn l.length) : Nat) : Int))), .bool false, .bool (decide (armed = 1)), .int .i64 ((armed - 1 : Nat) : Int), .int .i64 ((torn : Nat) : Int)] 70), (m, .map arr' clk')]) (fun φ20 => [d, d]) s trivial (fun φ20 => by kernel_rfl) ?_
            intro φ20 w20 s
            rw [nat_addI (a := used) (b := (min torn l.length)) (by have hlb := hb; have hq2 := of_decide_eq_false hc10; have hq3 := of_decide_eq_true hc16; (try simp only [List.length_drop, List.length_take, List.length_append, List.length_cons, List.length_nil]); omega)] at s ⊢
            refine ops_done (by kernel_rfl) ?_
            refine wp_seq ?_
            refine region_rule ?_
            refine ops_rule (C := []) [(d, .cells #[.map (some m), .int .i64 ((room : Nat) : Int), .int .i64 ((used + (min torn l.length) : Nat) : Int), .bool false, .bool (decide (armed = 1)), .int .i64 ((armed - 1 : Nat) : Int), .int .i64 ((torn : Nat) : Int)] 70), (m, .map arr' clk')] (Fr ++ F19) 2 [] 0 (fun φ21 => [(6, .int .i64 ((cntE armed : Nat) : Int)), (74, .int .i64 ((cntE armed : Nat) : Int))]) (fun φ21 => [(d, .cells #[.map (some m), .int .i64 ((room : Nat) : Int), .int .i64 ((used + (min torn l.length) : Nat) : Int), .bool false, .bool (decide (armed = 1)), .int .i64 ((armed - 1 : Nat) : Int), .int .i64 ((torn : Nat) : Int)] 70), (m, .map arr' clk')]) (fun φ21 => []) s trivial (fun φ21 => by kernel_rfl) ?_
            intro φ21 w21 s
            refine ops_done (by kernel_rfl) ?_
            refine wp_ret ?_
            refine ret_rule (C := []) [(d, .cells #[.map (some m), .int .i64 ((room : Nat) : Int), .int .i64 ((used + (min torn l.length) : Nat) : Int), .bool false, .bool (decide (armed = 1)), .int .i64 ((armed - 1 : Nat) : Int), .int .i64 ((torn : Nat) : Int)] 70), (m, .map arr' clk')] (Fr ++ F19) (.int .i64 ((cntE armed : Nat) : Int)) [] [] s trivial (by kernel_rfl) ?_
            rw [take_min2] at hM'
            rw [show used + min torn l.length = used + (l.take torn).length by rw [List.length_take]] at s
            rw [dApp_go (q := l.take torn) (of_decide_eq_false hc10) (if_pos (cnt_ne (of_decide_eq_true hc16)))]
            exact ⟨_, _, _, rfl, s, ⟨_, _, _, rfl, _, _, rfl, rfl, rfl, hM'⟩⟩
          ·
            rw [hc16]
            refine cond_false_rule (b := false) (by kernel_rfl) rfl ?_
            refine wp_skip ?_
            refine wp_seq ?_
            obtain ⟨v0, Fe, Fr, hp0, hr0, hlk0, -, hup0⟩ := map_open hM m k
            replace s := s.perm (List.Perm.append_left [(d, .cells #[.map (some m), .int .i64 ((room : Nat) : Int), .int .i64 ((used : Nat) : Int), .bool false, .bool (decide (armed = 1)), .int .i64 ((armed - 1 : Nat) : Int), .int .i64 ((torn : Nat) : Int)] 70), (m, .map arr clk)] hp0)
            have hL22 : ∀ e ∈ [(d, .cells #[.map (some m), .int .i64 ((room : Nat) : Int), .int .i64 ((used : Nat) : Int), .bool false, .bool (decide (armed = 1)), .int .i64 ((armed - 1 : Nat) : Int), .int .i64 ((torn : Nat) : Int)] 70), (m, .map arr clk)], e ∈ [(d, .cells #[.map (some m), .int .i64 ((room : Nat) : Int), .int .i64 ((used : Nat) : Int), .bool false, .bool (decide (armed = 1)), .int .i64 ((armed - 1 : Nat) : Int), .int .i64 ((torn : Nat) : Int)] 70), (m, .map arr clk)] ++ (Fr ++ Fe) := fun e he => List.mem_append_left _ he
            have hg22d := all_get s hL22 ((d, .cells #[.map (some m), .int .i64 ((room : Nat) : Int), .int .i64 ((used : Nat) : Int), .bool false, .bool (decide (armed = 1)), .int .i64 ((armed - 1 : Nat) : Int), .int .i64 ((torn : Nat) : Int)] 70)) (by simp)
            have hg22m := all_get s hL22 ((m, .map arr clk)) (by simp)
            refine region_lastH 13 (SubS (IM.all I13 [(d, .cells #[.map (some m), .int .i64 ((room : Nat) : Int), .int .i64 ((used : Nat) : Int), .bool false, .bool (decide (armed = 1)), .int .i64 ((armed - 1 : Nat) : Int), .int .i64 ((torn : Nat) : Int)] 70), (m, .map arr clk)])) _ _ (by kernel_rfl) (last_split 13 (by kernel_rfl)) (by kernel_rfl) (by kernel_rfl) ?_
            replace s := St.drew s
            refine held_take (fuel := 12) [] [] 0 (.pointer (some ⟨d, 0, none⟩)) (some 52) [] (I := (IM.all I13 [(d, .cells #[.map (some m), .int .i64 ((room : Nat) : Int), .int .i64 ((used : Nat) : Int), .bool false, .bool (decide (armed = 1)), .int .i64 ((armed - 1 : Nat) : Int), .int .i64 ((torn : Nat) : Int)] 70), (m, .map arr clk)])) trivial (by kernel_rfl) (by kernel_rfl) (by kernel_rfl) (by kernel_rfl) (by kernel_rfl) (fun _ d' _ _ _ h => by cases d' <;> exact h) (by kernel_rfl) (by kernel_rfl) (all_subW s hL22) ?_
            refine held_take (fuel := 11) [] [] 1 (.pointer (some ⟨d, 0, none⟩)) (some 53) [] (I := (IM.all I13 [(d, .cells #[.map (some m), .int .i64 ((room : Nat) : Int), .int .i64 ((used : Nat) : Int), .bool false, .bool (decide (armed = 1)), .int .i64 ((armed - 1 : Nat) : Int), .int .i64 ((torn : Nat) : Int)] 70), (m, .map arr clk)])) trivial (by kernel_rfl) (by kernel_rfl) (by kernel_rfl) (by kernel_rfl) (by kernel_rfl) (fun _ d' _ _ _ h => by cases d' <;> exact h) (by kernel_rfl) (by kernel_rfl) (all_subW s hL22) ?_
            refine held_take (fuel := 10) [] [] 2 (.pointer (some ⟨d, 0, none⟩)) (some 54) [] (I := (IM.all I13 [(d, .cells #[.map (some m), .int .i64 ((room : Nat) : Int), .int .i64 ((used : Nat) : Int), .bool false, .bool (decide (armed = 1)), .int .i64 ((armed - 1 : Nat) : Int), .int .i64 ((torn : Nat) : Int)] 70), (m, .map arr clk)])) trivial (by kernel_rfl) (by kernel_rfl) (by kernel_rfl) (by kernel_rfl) (by kernel_rfl) (fun _ d' _ _ _ h => by cases d' <;> exact h) (by kernel_rfl) (by kernel_rfl) (all_subW s hL22) ?_
            refine held_take (fuel := 9) [(d, .cells #[.map (some m), .int .i64 ((room : Nat) : Int), .int .i64 ((used : Nat) : Int), .bool false, .bool (decide (armed = 1)), .int .i64 ((armed - 1 : Nat) : Int), .int .i64 ((torn : Nat) : Int)] 70)] [.c 0] 3 (.map (some m)) (some 55) [d] (I := (IM.all I13 [(d, .cells #[.map (some m), .int .i64 ((room : Nat) : Int), .int .i64 ((used : Nat) : Int), .bool false, .bool (decide (armed = 1)), .int .i64 ((armed - 1 : Nat) : Int), .int .i64 ((torn : Nat) : Int)] 70), (m, .map arr clk)])) ⟨hg22d, trivial⟩ (by kernel_rfl) (by kernel_rfl) (by kernel_rfl) (by kernel_rfl) (by kernel_rfl) (fun _ d' _ _ _ h => by cases d' <;> exact h) (by kernel_rfl) (by kernel_rfl) (all_subW s hL22) ?_
            refine held_take (fuel := 8) [] [] 4 (.int .u64 ((k : Nat) : Int)) (some 56) [] (I := (IM.all I13 [(d, .cells #[.map (some m), .int .i64 ((room : Nat) : Int), .int .i64 ((used : Nat) : Int), .bool false, .bool (decide (armed = 1)), .int .i64 ((armed - 1 : Nat) : Int), .int .i64 ((torn : Nat) : Int)] 70), (m, .map arr clk)])) trivial (by kernel_rfl) (by kernel_rfl) (by kernel_rfl) (by kernel_rfl) (by kernel_rfl) (fun _ d' _ _ _ h => by cases d' <;> exact h) (by kernel_rfl) (by kernel_rfl) (all_subW s hL22) ?_
            refine held_take (fuel := 7) [] [] 5 (.pointer (some ⟨d, 0, none⟩)) (some 57) [] (I := (IM.all I13 [(d, .cells #[.map (some m), .int .i64 ((room : Nat) : Int), .int .i64 ((used : Nat) : Int), .bool false, .bool (decide (armed = 1)), .int .i64 ((armed - 1 : Nat) : Int), .int .i64 ((torn : Nat) : Int)] 70), (m, .map arr clk)])) trivial (by kernel_rfl) (by kernel_rfl) (by kernel_rfl) (by kernel_rfl) (by kernel_rfl) (fun _ d' _ _ _ h => by cases d' <;> exact h) (by kernel_rfl) (by kernel_rfl) (all_subW s hL22) ?_
            refine held_take (fuel := 6) [] [] 6 (.pointer (some ⟨d, 0, none⟩)) (some 58) [] (I := (IM.all I13 [(d, .cells #[.map (some m), .int .i64 ((room : Nat) : Int), .int .i64 ((used : Nat) : Int), .bool false, .bool (decide (armed = 1)), .int .i64 ((armed - 1 : Nat) : Int), .int .i64 ((torn : Nat) : Int)] 70), (m, .map arr clk)])) trivial (by kernel_rfl) (by kernel_rfl) (by kernel_rfl) (by kernel_rfl) (by kernel_rfl) (fun _ d' _ _ _ h => by cases d' <;> exact h) (by kernel_rfl) (by kernel_rfl) (all_subW s hL22) ?_
            refine held_take (fuel := 5) [] [] 7 (.pointer (some ⟨d, 0, none⟩)) (some 59) [] (I := (IM.all I13 [(d, .cells #[.map (some m), .int .i64 ((room : Nat) : Int), .int .i64 ((used : Nat) : Int), .bool false, .bool (decide (armed = 1)), .int .i64 ((armed - 1 : Nat) : Int), .int .i64 ((torn : Nat) : Int)] 70), (m, .map arr clk)])) trivial (by kernel_rfl) (by kernel_rfl) (by kernel_rfl) (by kernel_rfl) (by kernel_rfl) (fun _ d' _ _ _ h => by cases d' <;> exact h) (by kernel_rfl) (by kernel_rfl) (all_subW s hL22) ?_
            refine held_take (fuel := 4) [(d, .cells #[.map (some m), .int .i64 ((room : Nat) : Int), .int .i64 ((used : Nat) : Int), .bool false, .bool (decide (armed = 1)), .int .i64 ((armed - 1 : Nat) : Int), .int .i64 ((torn : Nat) : Int)] 70)] [.c 0] 8 (.map (some m)) (some 60) [d] (I := (IM.all I13 [(d, .cells #[.map (some m), .int .i64 ((room : Nat) : Int), .int .i64 ((used : Nat) : Int), .bool false, .bool (decide (armed = 1)), .int .i64 ((armed - 1 : Nat) : Int), .int .i64 ((torn : Nat) : Int)] 70), (m, .map arr clk)])) ⟨hg22d, trivial⟩ (by kernel_rfl) (by kernel_rfl) (by kernel_rfl) (by kernel_rfl) (by kernel_rfl) (fun _ d' _ _ _ h => by cases d' <;> exact h) (by kernel_rfl) (by kernel_rfl) (all_subW s hL22) ?_
            refine held_take (fuel := 3) [] [] 9 (.int .u64 ((k : Nat) : Int)) (some 61) [] (I := (IM.all I13 [(d, .cells #[.map (some m), .int .i64 ((room : Nat) : Int), .int .i64 ((used : Nat) : Int), .bool false, .bool (decide (armed = 1)), .int .i64 ((armed - 1 : Nat) : Int), .int .i64 ((torn : Nat) : Int)] 70), (m, .map arr clk)])) trivial (by kernel_rfl) (by kernel_rfl) (by kernel_rfl) (by kernel_rfl) (by kernel_rfl) (fun _ d' _ _ _ h => by cases d' <;> exact h) (by kernel_rfl) (by kernel_rfl) (all_subW s hL22) ?_
            refine held_take (fuel := 2) [] [] 11 (.slice a l.length c) (some 63) [] (I := (IM.all I13 [(d, .cells #[.map (some m), .int .i64 ((room : Nat) : Int), .int .i64 ((used : Nat) : Int), .bool false, .bool (decide (armed = 1)), .int .i64 ((armed - 1 : Nat) : Int), .int .i64 ((torn : Nat) : Int)] 70), (m, .map arr clk)])) trivial (by kernel_rfl) (by kernel_rfl) (by kernel_rfl) (by kernel_rfl) (by kernel_rfl) (fun _ d' _ _ _ h => by cases d' <;> exact h) (by kernel_rfl) (by kernel_rfl) (all_subW s hL22) ?_
            refine held_ranS (fuel := 1) (Instr.lookup 66 (.map (some m)) (.int .u64 ((k : Nat) : Int)) false) 10 (v0) (some 62) (I := (IM.all I13 [(d, .cells #[.map (some m), .int .i64 ((room : Nat) : Int), .int .i64 ((used : Nat) : Int), .bool false, .bool (decide (armed = 1)), .int .i64 ((armed - 1 : Nat) : Int), .int .i64 ((torn : Nat) : Int)] 70), (m, .map arr clk)])) (by kernel_rfl) (by kernel_rfl) (by kernel_rfl) (by kernel_rfl) (by kernel_rfl) (fun _ d' _ _ _ h => by cases d' <;> exact h) (by kernel_rfl) (by kernel_rfl) (fun w' hS' => hlk0 _ clk (hS' _ _ hg22m)) (all_subW s hL22) ?_
            refine held_one (fuel := 0) 12 (by kernel_rfl) (by kernel_rfl) ?_
            refine append_rule (H := [(d, .cells #[.map (some m), .int .i64 ((room : Nat) : Int), .int .i64 ((used : Nat) : Int), .bool false, .bool (decide (armed = 1)), .int .i64 ((armed - 1 : Nat) : Int), .int .i64 ((torn : Nat) : Int)] 70), (m, .map arr clk)] ++ Fr) (F := Fe) 29 29 5 Try.t5 (.int .u8 0) 1 1 (some 64) (St.perm s (by rw [List.append_assoc])) Try.underlying29 (by kernel_rfl) (by kernel_rfl) (by kernel_rfl) (by kernel_rfl) (by kernel_rfl) (by decide) hr0 (src_bsl s.sub hl) (by have h7 := tot_get es k; (try simp only [maxLen, List.length_take]); omega) (by have h7 := tot_get es k; (try simp only [maxLen, List.length_take]); omega) (by kernel_rfl) ?_
            intro v22 w22 F22 s h22
            replace s : St _ _ _ _ _ ([(d, .cells #[.map (some m), .int .i64 ((room : Nat) : Int), .int .i64 ((used : Nat) : Int), .bool false, .bool (decide (armed = 1)), .int .i64 ((armed - 1 : Nat) : Int), .int .i64 ((torn : Nat) : Int)] 70), (m, .map arr clk)] ++ (Fr ++ F22)) := s.perm (by rw [List.append_assoc])
            replace h22 : RowH 5 1 v22 (((mget es k).getD []) ++ l).length ((((mget es k).getD []) ++ l).map bV) F22 := row_app (x := ((mget es k).getD [])) (y := l) h22
            refine ops_done (by kernel_rfl) ?_
            refine held_nextS (all_subW s (fun e he => List.mem_append_left _ he)) ?_
            refine Go.wpAnyH_done (by kernel_rfl) ?_ _
            refine qn_normal ?_
            obtain ⟨arr', clk', hM', hup⟩ := hup0 clk v22 _ F22 h22
            refine last_rule (Instr.mapUpdate 66 (.map (some m)) (.int .u64 ((k : Nat) : Int)) v22) rfl (by kernel_rfl) (by kernel_rfl) (hup _ (s.own (m, .map arr clk) (by simp))) ?_
            replace s : St _ _ _ _ _ ([(d, .cells #[.map (some m), .int .i64 ((room : Nat) : Int), .int .i64 ((used : Nat) : Int), .bool false, .bool (decide (armed = 1)), .int .i64 ((armed - 1 : Nat) : Int), .int .i64 ((torn : Nat) : Int)] 70), (m, .map arr' clk')] ++ (Fr ++ F22)) := St.setB s (i := 1) rfl
            refine wp_seq ?_
            refine region_rule ?_
            refine ops_rule (C := []) [(d, .cells #[.map (some m), .int .i64 ((room : Nat) : Int), .int .i64 ((used : Nat) : Int), .bool false, .bool (decide (armed = 1)), .int .i64 ((armed - 1 : Nat) : Int), .int .i64 ((torn : Nat) : Int)] 70), (m, .map arr' clk')] (Fr ++ F22) 10 [.o 0, .o 0] 0 (fun φ23 => [(73, .pointer (some ⟨d, 2, none⟩)), (72, .pointer (some ⟨d, 0, none⟩)), (71, .int .i64 (IntKind.wrap .i64 (((used : Nat) : Int) + ((l.length : Nat) : Int)))), (70, .int .i64 ((l.length : Nat) : Int)), (69, .slice a l.length c), (68, .int .i64 ((used : Nat) : Int)), (67, .pointer (some ⟨d, 2, none⟩)), (66, .pointer (some ⟨d, 0, none⟩)), (65, .pointer (some ⟨d, 0, none⟩))]) (fun φ23 => [(d, .cells #[.map (some m), .int .i64 ((room : Nat) : Int), .int .i64 (IntKind.wrap .i64 (((used : Nat) : Int) + ((l.length : Nat) : Int))), .bool false, .bool (decide (armed = 1)), .int .i64 ((armed - 1 : Nat) : Int), .int .i64 ((torn : Nat) : Int)] 70), (m, .map arr' clk')]) (fun φ23 => [d, d]) s trivial (fun φ23 => by kernel_rfl) ?_
            intro φ23 w23 s
            rw [nat_addI (a := used) (b := l.length) (by have hlb := hb; have hq2 := of_decide_eq_false hc10; have hq3 := of_decide_eq_false hc16; (try simp only [List.length_drop, List.length_take, List.length_append, List.length_cons, List.length_nil]); omega)] at s ⊢
            refine ops_done (by kernel_rfl) ?_
            refine wp_seq ?_
            refine region_rule ?_
            refine ops_rule (C := []) [(d, .cells #[.map (some m), .int .i64 ((room : Nat) : Int), .int .i64 ((used + l.length : Nat) : Int), .bool false, .bool (decide (armed = 1)), .int .i64 ((armed - 1 : Nat) : Int), .int .i64 ((torn : Nat) : Int)] 70), (m, .map arr' clk')] (Fr ++ F22) 2 [] 0 (fun φ24 => [(6, .int .i64 ((cntE armed : Nat) : Int)), (74, .int .i64 ((cntE armed : Nat) : Int))]) (fun φ24 => [(d, .cells #[.map (some m), .int .i64 ((room : Nat) : Int), .int .i64 ((used + l.length : Nat) : Int), .bool false, .bool (decide (armed = 1)), .int .i64 ((armed - 1 : Nat) : Int), .int .i64 ((torn : Nat) : Int)] 70), (m, .map arr' clk')]) (fun φ24 => []) s trivial (fun φ24 => by kernel_rfl) ?_
            intro φ24 w24 s
            refine ops_done (by kernel_rfl) ?_
            refine wp_ret ?_
            refine ret_rule (C := []) [(d, .cells #[.map (some m), .int .i64 ((room : Nat) : Int), .int .i64 ((used + l.length : Nat) : Int), .bool false, .bool (decide (armed = 1)), .int .i64 ((armed - 1 : Nat) : Int), .int .i64 ((torn : Nat) : Int)] 70), (m, .map arr' clk')] (Fr ++ F22) (.int .i64 ((cntE armed : Nat) : Int)) [] [] s trivial (by kernel_rfl) ?_
            rw [dApp_go (q := l) (of_decide_eq_false hc10) (if_neg (cnt_eq (of_decide_eq_false hc16)))]
            exact ⟨_, _, _, rfl, s, ⟨_, _, _, rfl, _, _, rfl, rfl, rfl, hM'⟩⟩

end Go.Proofs.Ytccjlkjadnghgaa
