/- WireNums. -/
import Derived.Test.YtpnlaeapnokipaaMW18
set_option linter.all false
set_option maxRecDepth 100000
namespace Go.Proofs.Ytpnlaeapnokipaa
open Go.RowKit Go.Sep
attribute [local irreducible] Go.wpList Go.Code.wp

theorem cutR30 {I : IM} {l : List UInt8} {a : Option Addr} {n c : Nat} (hl : BSl I (l.take 30) (.slice a n c)) : FunM Try.prog 36 #[.slice a n c, .int .i64 ((30 : Nat) : Int)] I [] (fun v J F => RowH 5 1 v (l.take 30).length ((l.take 30).map bV) F) := by
  have := cut_r (m := 30) hl (by decide)
  rwa [List.take_of_length_le (by rw [List.length_take]; omega)] at this
theorem room_take {l : List UInt8} : (l.take 30 ++ ([90] : List UInt8)).take (List.length (l.take 30)) = l.take 30 := List.take_left
theorem room_last {l : List UInt8} : ((l.take 30 ++ ([90] : List UInt8)).getD (List.length (l.take 30)) 0).toNat = 90 := by simp
theorem p_drop {A B C D : List UInt8} : (((A ++ B) ++ C) ++ D).drop (List.length A) = B ++ (C ++ D) := by
  rw [List.append_assoc, List.append_assoc, List.drop_left]
theorem p_join {A B C D : List UInt8} : (((A ++ B) ++ C) ++ D) = A ++ B ++ (C ++ D) := by rw [List.append_assoc (A ++ B)]

set_option maxHeartbeats 8000000 in
theorem wireNums_c {I : IM} {l ss : List UInt8} {a : Option Addr} {n c : Nat} (hl : BSl I l (.slice a n c)) {n0 : Nat} (hn : n0 < 18446744073709551616) : Fun Try.prog 12 #[.slice a n c, .int .u64 ((n0 : Nat) : Int), .string ⟨(ss).toArray⟩] I (fun v J => v = .bool true) := by
  obtain ⟨rfl, -⟩ := hl.cap
  refine enter_rule 103 [(0, .slice a l.length c), (1, .int .u64 ((n0 : Nat) : Int)), (2, .string ⟨(ss).toArray⟩)] Try.func12 rfl (by kernel_rfl) ?_
  intro w s
  refine wp_seq ?_
  refine region_rule ?_
  refine ops_rule (C := []) [] [] 1 [] 0 (fun φ1 => [(6, .bool false)]) (fun φ1 => []) (fun φ1 => []) s trivial (fun φ1 => by kernel_rfl) ?_
  intro φ1 w1 s
  refine ops_done (by kernel_rfl) ?_
  refine wp_seq ?_
  refine wp_seq ?_
  refine region_rule ?_
  refine call_rule (some 11) s (awake6_c) (by kernel_rfl) ?_
  intro v2 I2 w2 le2 h2 s
  replace hl := BSl.mono le2 hl
  obtain rfl := h2
  refine ops_rule (C := []) [] [] 1 [] 0 (fun φ3 => [(12, .bool false)]) (fun φ3 => []) (fun φ3 => []) s trivial (fun φ3 => by kernel_rfl) ?_
  intro φ3 w3 s
  refine ops_done (by kernel_rfl) ?_
  refine cond_false_rule (b := false) (by kernel_rfl) rfl ?_
  refine wp_skip ?_
  refine wp_seq ?_
  refine draw_rule (C := []) ⟨(fun φ4 xs4 => [.look 0 [] [], .call 36 #[.slice a l.length c, .int .i64 30], .look 0 [] [], .look 0 [] [], .look 0 [] [], .sub 0 [] [] (.int .i64 (if ((200 : Nat) : Int) < (((ss).length : Nat) : Int) then ((200 : Nat) : Int) else (((ss).length : Nat) : Int))), .ran (Instr.sliceAt 9 (.string ⟨(ss).toArray⟩) none (some (.int .i64 ((min ((ss).length) 200 : Nat) : Int))) none), .look 0 [] [], .look 0 [] []]), (fun φ4 xs4 => [.slice a l.length c, .slice ((xs4 1).p 0) (List.length (l.take 30)) ((xs4 1).n 0), .string ⟨(ss).toArray⟩, .string ⟨(ss).toArray⟩, .int .i64 (((ss).length : Nat) : Int), .int .i64 ((min ((ss).length) 200 : Nat) : Int), .string ⟨((ss.take (min ((ss).length) 200))).toArray⟩, .slice ((xs4 1).p 0) (List.length (l.take 30)) ((xs4 1).n 0), .string ⟨((ss.take (min ((ss).length) 200))).toArray⟩]), (fun φ4 xs4 => [[]]), (fun φ4 xs4 => [[default, default, default, default, default, default, default, default, default]]), [], [1, 3, 1, 1, 1, 5, 6, 1, 1]⟩ (fun j => ([MP.any, ⟨fun x J => BSl J (l.take 30) (.slice (x.p 0) (List.length (l.take 30)) (x.n 0)), fun le h => BSl.mono le h⟩, MP.any, MP.any, MP.any, MP.any, MP.any, MP.any, MP.any] : List MP).getD j MP.any) [1] [5] [6] (fun φ4 xs4 => []) (fun φ4 xs4 => [(13, .slice a l.length c), (14, .slice ((xs4 1).p 0) (List.length (l.take 30)) ((xs4 1).n 0)), (15, .string ⟨(ss).toArray⟩), (16, .string ⟨(ss).toArray⟩), (17, .int .i64 (((ss).length : Nat) : Int)), (18, .int .i64 ((min ((ss).length) 200 : Nat) : Int)), (19, .string ⟨((ss.take (min ((ss).length) 200))).toArray⟩), (0, .slice ((xs4 1).p 0) (List.length (l.take 30)) ((xs4 1).n 0)), (2, .string ⟨((ss.take (min ((ss).length) 200))).toArray⟩)]) (fun φ4 xs4 => []) s trivial (by kernel_rfl) (by kernel_rfl) (fun _ _ => by kernel_rfl) (fun _ _ => by kernel_rfl) ⟨fun _ _ => by kernel_rfl, fun _ _ => by kernel_rfl, fun _ _ => by kernel_rfl, fun _ _ => by kernel_rfl⟩ (fun _ _ _ => by kernel_rfl) (fun _ _ => by kernel_rfl) (fun _ _ => by kernel_rfl) (fun _ _ => by kernel_rfl) (fun _ _ => by kernel_rfl) (fun _ _ => by kernel_rfl) ⟨kcast (A := ∀ (φ4 : Nat → Nat) (xs4 : Xs), (.int .i64 (if ((200 : Nat) : Int) < (((ss).length : Nat) : Int) then ((200 : Nat) : Int) else (((ss).length : Nat) : Int)) : Value) = .int .i64 ((min ((ss).length) 200 : Nat) : Int)) (by kernel_rfl) (fun φ4 xs4 => congrArg (Value.int .i64) ((nat_min (a := ((ss).length)) (b := 200)))), trivial⟩ ⟨kcast (A := ∀ (φ4 : Nat → Nat) (xs4 : Xs) (J : IM) (w : World), I2.Le J → J.Sub w → ((Instr.sliceAt 9 (.string ⟨(ss).toArray⟩) none (some (.int .i64 ((min ((ss).length) 200 : Nat) : Int))) none) : Sem Value).run Try.prog w = .ok (.string ⟨((ss.take (min ((ss).length) 200))).toArray⟩) w) (by kernel_rfl) (fun φ4 xs4 J w hJ hS => run_takeStr (s := ss) (hi := min ((ss).length) 200) (by omega)), trivial⟩ (by kernel_rfl) ⟨?c4_1, trivial⟩ ?k4
  case c4_1 =>
    refine kcast (A := ∀ (φ4 : Nat → Nat) (xs4 : Xs) (J1_4 : IM), I2.Le J1_4 → Fun Try.prog 36 #[.slice a l.length c, .int .i64 30] J1_4 (fun v J' => ∃ x : UX, v = .slice (x.p 0) (List.length (l.take 30)) (x.n 0) ∧ (BSl J' (l.take 30) (.slice (x.p 0) (List.length (l.take 30)) (x.n 0))))) (by kernel_rfl) ?_
    intro φ4 xs4 J1_4 leJ
    have hl := BSl.mono leJ hl
    exact Fun.mono (cut_c (m := 30) hl (by decide)) (fun v J' _ ⟨y0, y1, hv, g0⟩ => ⟨{ UX.d with p := fun j => y0, n := fun j => y1 }, hv, g0⟩)
  case k4 =>
    rintro φ4 xs4 I4 w4 le4 s h4_1_0
    replace hl := BSl.mono le4 hl
    refine wp_seq ?_
    refine region_rule ?_
    refine ops_rule (C := []) [] [] 1 [] 0 (fun φ5 => [(20, .slice ((xs4 1).p 0) (List.length (l.take 30)) ((xs4 1).n 0))]) (fun φ5 => []) (fun φ5 => []) s trivial (fun φ5 => by kernel_rfl) ?_
    intro φ5 w5 s
    refine callF_rule (H := []) (F := []) (some 21) s (cutR30 h4_1_0) (by kernel_rfl) ?_
    intro v6 I6 w6 F6 le6 h6 s
    replace hl := BSl.mono le6 hl
    replace h4_1_0 := BSl.mono le6 h4_1_0
    refine ops_rule (C := []) [] F6 1 [] 1 (fun φ7 => [(22, .slice (some ⟨(φ7 0), 0, none⟩) 1 1)]) (fun φ7 => [((φ7 0), .cells #[.int .u8 90] 5)]) (fun φ7 => []) s trivial (fun φ7 => by kernel_rfl) ?_
    intro φ7 w7 s
    refine append_rule (H := [((φ7 0), .cells #[.int .u8 90] 5)]) (F := F6) 34 34 5 Try.t5 (.int .u8 0) 1 1 (some 23) s Try.underlying34 (by kernel_rfl) (by kernel_rfl) (by kernel_rfl) (by kernel_rfl) (by kernel_rfl) (by decide) h6 (src_own (H := [((φ7 0), .cells #[.int .u8 90] 5)]) s 0 (φ7 0) #[.int .u8 90] 5 34 5 1 1 1 [.int .u8 90] (by kernel_rfl) under34 (by kernel_rfl) (by kernel_rfl) (by kernel_rfl)) (by simp only [maxLen, List.length_append, List.length_take, List.length_cons, List.length_nil]; omega) (by simp only [maxLen, List.length_append, List.length_take, List.length_cons, List.length_nil]; omega) (by kernel_rfl) ?_
    intro v8 w8 F8 s h8
    replace h8 : RowH 5 1 v8 (((l.take 30) ++ ([90] : List UInt8)).length) (((l.take 30) ++ ([90] : List UInt8)).map bV) F8 := row_snoc (x := (l.take 30)) (y := ([90] : List UInt8)) h8 (by kernel_rfl)
    obtain ⟨I9, le9, hb9, s⟩ := freeze_row (H := [((φ7 0), .cells #[.int .u8 90] 5)]) (F := F8) s h8
    replace hl := BSl.mono le9 hl
    replace h4_1_0 := BSl.mono le9 h4_1_0
    obtain ⟨a9, c9, hv9, hc9, hb9⟩ := hb9.open
    subst hv9
    refine ops_rule (C := []) [((φ7 0), .cells #[.int .u8 90] 5)] [] 1 [] 0 (fun φ10 => [(7, .slice a9 (((l.take 30) ++ ([90] : List UInt8)).length) c9)]) (fun φ10 => [((φ7 0), .cells #[.int .u8 90] 5)]) (fun φ10 => []) s trivial (fun φ10 => by kernel_rfl) ?_
    intro φ10 w10 s
    refine ops_done (by kernel_rfl) ?_
    refine wp_seq ?_
    refine region_rule ?_
    refine ops_rule (C := []) [((φ7 0), .cells #[.int .u8 90] 5)] [] 3 [] 0 (fun φ11 => [(26, .int .i64 (((List.length (l.take 30)) : Nat) : Int)), (25, .slice ((xs4 1).p 0) (List.length (l.take 30)) ((xs4 1).n 0)), (24, .slice a9 (((l.take 30) ++ ([90] : List UInt8)).length) c9)]) (fun φ11 => [((φ7 0), .cells #[.int .u8 90] 5)]) (fun φ11 => []) s trivial (fun φ11 => by kernel_rfl) ?_
    intro φ11 w11 s
    refine sem_rule (Instr.sliceAt 34 (.slice a9 (((l.take 30) ++ ([90] : List UInt8)).length) c9) none (some (.int .i64 (((List.length (l.take 30)) : Nat) : Int))) none) (some 27) (.slice a9 (List.length (l.take 30)) c9) (by kernel_rfl) (run_to (by have hcp := (BSl.cap hb9).2; (try simp only [List.length_drop, List.length_take, List.length_append, List.length_cons, List.length_nil] at hcp ⊢); have he1 := (encF_len 9 n0).2; have he2 := (encF_len 9 (ss.take (min ss.length 200)).length).2;  (try simp only [List.length_drop, List.length_take, List.length_append, List.length_cons, List.length_nil]); omega)) ?_
    refine ops_rule (C := []) [((φ7 0), .cells #[.int .u8 90] 5)] [] 1 [] 0 (fun φ12 => [(28, .int .u64 ((n0 : Nat) : Int))]) (fun φ12 => [((φ7 0), .cells #[.int .u8 90] 5)]) (fun φ12 => []) s trivial (fun φ12 => by kernel_rfl) ?_
    intro φ12 w12 s
    refine callF_rule (H := [((φ7 0), .cells #[.int .u8 90] 5)]) (F := []) (some 29) s (numB_r (n := n0) (bsl_eq (bsl_to (hi := (List.length (l.take 30))) hb9 (by have hcp := (BSl.cap hb9).2; (try simp only [List.length_drop, List.length_take, List.length_append, List.length_cons, List.length_nil] at hcp ⊢); have he1 := (encF_len 9 n0).2; have he2 := (encF_len 9 (ss.take (min ss.length 200)).length).2;  (try simp only [List.length_drop, List.length_take, List.length_append, List.length_cons, List.length_nil]); omega)) (room_take)) (by (try simp only [List.length_append, List.length_take, List.length_cons, List.length_nil]); have he1 := (encF_len 9 n0).2; have he2 := (encF_len 9 (ss.take (min ss.length 200)).length).2; (try simp only [List.length_take] at he2); omega) hn) (by kernel_rfl) ?_
    intro v13 I13 w13 F13 le13 h13 s
    replace hl := BSl.mono le13 hl
    replace h4_1_0 := BSl.mono le13 h4_1_0
    replace hb9 := BSl.mono le13 hb9
    obtain ⟨I14, le14, hb14, s⟩ := freeze_row (H := [((φ7 0), .cells #[.int .u8 90] 5)]) (F := F13) s h13
    replace hl := BSl.mono le14 hl
    replace h4_1_0 := BSl.mono le14 h4_1_0
    replace hb9 := BSl.mono le14 hb9
    obtain ⟨a14, c14, hv14, hc14, hb14⟩ := hb14.open
    subst hv14
    refine ops_rule (C := []) [((φ7 0), .cells #[.int .u8 90] 5)] [] 1 [] 0 (fun φ15 => [(30, .string ⟨((ss.take (min ((ss).length) 200))).toArray⟩)]) (fun φ15 => [((φ7 0), .cells #[.int .u8 90] 5)]) (fun φ15 => []) s trivial (fun φ15 => by kernel_rfl) ?_
    intro φ15 w15 s
    refine callF_rule (H := [((φ7 0), .cells #[.int .u8 90] 5)]) (F := []) (some 31) s (textB_r (ss := (ss.take (min ((ss).length) 200))) hb14 (by (try simp only [List.length_append, List.length_take, List.length_cons, List.length_nil]); have he1 := (encF_len 9 n0).2; have he2 := (encF_len 9 (ss.take (min ss.length 200)).length).2; (try simp only [List.length_take] at he2); omega) (by simp only [List.length_take]; omega)) (by kernel_rfl) ?_
    intro v16 I16 w16 F16 le16 h16 s
    replace hl := BSl.mono le16 hl
    replace h4_1_0 := BSl.mono le16 h4_1_0
    replace hb9 := BSl.mono le16 hb9
    replace hb14 := BSl.mono le16 hb14
    obtain ⟨I17, le17, hb17, s⟩ := freeze_row (H := [((φ7 0), .cells #[.int .u8 90] 5)]) (F := F16) s h16
    replace hl := BSl.mono le17 hl
    replace h4_1_0 := BSl.mono le17 h4_1_0
    replace hb9 := BSl.mono le17 hb9
    replace hb14 := BSl.mono le17 hb14
    obtain ⟨a17, c17, hv17, hc17, hb17⟩ := hb17.open
    subst hv17
    refine ops_rule (C := []) [((φ7 0), .cells #[.int .u8 90] 5)] [] 1 [] 0 (fun φ18 => [(8, .slice a17 ((((((l.take 30) ++ encF 9 n0) ++ encF 9 (ss.take (min ((ss).length) 200)).length) ++ (ss.take (min ((ss).length) 200)))).length) c17)]) (fun φ18 => [((φ7 0), .cells #[.int .u8 90] 5)]) (fun φ18 => []) s trivial (fun φ18 => by kernel_rfl) ?_
    intro φ18 w18 s
    refine ops_done (by kernel_rfl) ?_
    refine wp_seq ?_
    refine region_rule ?_
    refine ops_rule (C := []) [((φ7 0), .cells #[.int .u8 90] 5)] [] 3 [] 0 (fun φ19 => [(34, .int .i64 (((List.length (l.take 30)) : Nat) : Int)), (33, .slice ((xs4 1).p 0) (List.length (l.take 30)) ((xs4 1).n 0)), (32, .slice a17 ((((((l.take 30) ++ encF 9 n0) ++ encF 9 (ss.take (min ((ss).length) 200)).length) ++ (ss.take (min ((ss).length) 200)))).length) c17)]) (fun φ19 => [((φ7 0), .cells #[.int .u8 90] 5)]) (fun φ19 => []) s trivial (fun φ19 => by kernel_rfl) ?_
    intro φ19 w19 s
    refine sem_rule (Instr.sliceAt 34 (.slice a17 ((((((l.take 30) ++ encF 9 n0) ++ encF 9 (ss.take (min ((ss).length) 200)).length) ++ (ss.take (min ((ss).length) 200)))).length) c17) (some (.int .i64 (((List.length (l.take 30)) : Nat) : Int))) none none) (some 35) (.slice (subA a17 (List.length (l.take 30)) c17) ((((((l.take 30) ++ encF 9 n0) ++ encF 9 (ss.take (min ((ss).length) 200)).length) ++ (ss.take (min ((ss).length) 200)))).length - (List.length (l.take 30))) (c17 - (List.length (l.take 30)))) (by kernel_rfl) (run_from (by have hcp := (BSl.cap hb17).2; (try simp only [List.length_drop, List.length_take, List.length_append, List.length_cons, List.length_nil] at hcp ⊢); have he1 := (encF_len 9 n0).2; have he2 := (encF_len 9 (ss.take (min ss.length 200)).length).2;  (try simp only [List.length_drop, List.length_take, List.length_append, List.length_cons, List.length_nil]); omega)) ?_
    refine callF_rule (H := [((φ7 0), .cells #[.int .u8 90] 5)]) (F := []) (some 36) s (newIn_c (bsl_eq (bsl_from (lo := (List.length (l.take 30))) hb17 (by have hcp := (BSl.cap hb17).2; (try simp only [List.length_drop, List.length_take, List.length_append, List.length_cons, List.length_nil] at hcp ⊢); have he1 := (encF_len 9 n0).2; have he2 := (encF_len 9 (ss.take (min ss.length 200)).length).2;  (try simp only [List.length_drop, List.length_take, List.length_append, List.length_cons, List.length_nil]); omega)) (p_drop)) (by (try simp only [List.length_append, List.length_take, List.length_cons, List.length_nil]); have he1 := (encF_len 9 n0).2; have he2 := (encF_len 9 (ss.take (min ss.length 200)).length).2; (try simp only [List.length_take] at he2); omega)) (by kernel_rfl) ?_
    rintro v20 I20 w20 F20 le20 ⟨b20, a20, c20, rfl, rfl, hb20⟩ s
    replace hl := BSl.mono le20 hl
    replace h4_1_0 := BSl.mono le20 h4_1_0
    replace hb9 := BSl.mono le20 hb9
    replace hb14 := BSl.mono le20 hb14
    replace hb17 := BSl.mono le20 hb17
    refine ops_rule (C := []) [((φ7 0), .cells #[.int .u8 90] 5), (b20, .cells #[.slice a20 (List.length (encF 9 n0 ++ (encF 9 (ss.take (min ((ss).length) 200)).length ++ (ss.take (min ((ss).length) 200))))) c20, .int .i64 0] 105)] [] 1 [] 0 (fun φ21 => [(9, .pointer (some ⟨b20, 0, none⟩))]) (fun φ21 => [((φ7 0), .cells #[.int .u8 90] 5), (b20, .cells #[.slice a20 (List.length (encF 9 n0 ++ (encF 9 (ss.take (min ((ss).length) 200)).length ++ (ss.take (min ((ss).length) 200))))) c20, .int .i64 0] 105)]) (fun φ21 => []) s trivial (fun φ21 => by kernel_rfl) ?_
    intro φ21 w21 s
    refine ops_done (by kernel_rfl) ?_
    refine wp_seq ?_
    refine region_rule ?_
    refine ops_rule (C := []) [((φ7 0), .cells #[.int .u8 90] 5), (b20, .cells #[.slice a20 (List.length (encF 9 n0 ++ (encF 9 (ss.take (min ((ss).length) 200)).length ++ (ss.take (min ((ss).length) 200))))) c20, .int .i64 0] 105)] [] 1 [] 0 (fun φ22 => [(10, .pointer none)]) (fun φ22 => [((φ7 0), .cells #[.int .u8 90] 5), (b20, .cells #[.slice a20 (List.length (encF 9 n0 ++ (encF 9 (ss.take (min ((ss).length) 200)).length ++ (ss.take (min ((ss).length) 200))))) c20, .int .i64 0] 105)]) (fun φ22 => []) s trivial (fun φ22 => by kernel_rfl) ?_
    intro φ22 w22 s
    refine ops_done (by kernel_rfl) ?_
    refine wp_seq ?_
    refine region_rule ?_
    refine ops_rule (C := []) [((φ7 0), .cells #[.int .u8 90] 5), (b20, .cells #[.slice a20 (List.length (encF 9 n0 ++ (encF 9 (ss.take (min ((ss).length) 200)).length ++ (ss.take (min ((ss).length) 200))))) c20, .int .i64 0] 105)] [] 1 [] 0 (fun φ23 => [(37, .pointer none)]) (fun φ23 => [((φ7 0), .cells #[.int .u8 90] 5), (b20, .cells #[.slice a20 (List.length (encF 9 n0 ++ (encF 9 (ss.take (min ((ss).length) 200)).length ++ (ss.take (min ((ss).length) 200))))) c20, .int .i64 0] 105)]) (fun φ23 => []) s trivial (fun φ23 => by kernel_rfl) ?_
    intro φ23 w23 s
    refine call_rule (some 38) s (fail_nil) (by kernel_rfl) ?_
    intro v24 I24 w24 le24 h24 s
    replace hl := BSl.mono le24 hl
    replace h4_1_0 := BSl.mono le24 h4_1_0
    replace hb9 := BSl.mono le24 hb9
    replace hb14 := BSl.mono le24 hb14
    replace hb17 := BSl.mono le24 hb17
    replace hb20 := BSl.mono le24 hb20
    obtain rfl := h24
    refine ops_done (by kernel_rfl) ?_
    refine wp_seq ?_
    refine region_rule ?_
    refine ops_rule (C := []) [((φ7 0), .cells #[.int .u8 90] 5), (b20, .cells #[.slice a20 (List.length (encF 9 n0 ++ (encF 9 (ss.take (min ((ss).length) 200)).length ++ (ss.take (min ((ss).length) 200))))) c20, .int .i64 0] 105)] [] 3 [] 0 (fun φ25 => [(41, .int .u64 ((n0 : Nat) : Int)), (40, .slice ((xs4 1).p 0) (List.length (l.take 30)) ((xs4 1).n 0)), (39, .slice a17 ((((((l.take 30) ++ encF 9 n0) ++ encF 9 (ss.take (min ((ss).length) 200)).length) ++ (ss.take (min ((ss).length) 200)))).length) c17)]) (fun φ25 => [((φ7 0), .cells #[.int .u8 90] 5), (b20, .cells #[.slice a20 (List.length (encF 9 n0 ++ (encF 9 (ss.take (min ((ss).length) 200)).length ++ (ss.take (min ((ss).length) 200))))) c20, .int .i64 0] 105)]) (fun φ25 => []) s trivial (fun φ25 => by kernel_rfl) ?_
    intro φ25 w25 s
    refine callF_rule (H := [((φ7 0), .cells #[.int .u8 90] 5), (b20, .cells #[.slice a20 (List.length (encF 9 n0 ++ (encF 9 (ss.take (min ((ss).length) 200)).length ++ (ss.take (min ((ss).length) 200))))) c20, .int .i64 0] 105)]) (F := []) (some 42) s (refnum6_r (n := n0) hn) (by kernel_rfl) ?_
    intro v26 I26 w26 F26 le26 h26 s
    replace hl := BSl.mono le26 hl
    replace h4_1_0 := BSl.mono le26 h4_1_0
    replace hb9 := BSl.mono le26 hb9
    replace hb14 := BSl.mono le26 hb14
    replace hb17 := BSl.mono le26 hb17
    replace hb20 := BSl.mono le26 hb20
    obtain ⟨I27, le27, hb27, s⟩ := freeze_row (H := [((φ7 0), .cells #[.int .u8 90] 5), (b20, .cells #[.slice a20 (List.length (encF 9 n0 ++ (encF 9 (ss.take (min ((ss).length) 200)).length ++ (ss.take (min ((ss).length) 200))))) c20, .int .i64 0] 105)]) (F := F26) s h26
    replace hl := BSl.mono le27 hl
    replace h4_1_0 := BSl.mono le27 h4_1_0
    replace hb9 := BSl.mono le27 hb9
    replace hb14 := BSl.mono le27 hb14
    replace hb17 := BSl.mono le27 hb17
    replace hb20 := BSl.mono le27 hb20
    obtain ⟨a27, c27, hv27, hc27, hb27⟩ := hb27.open
    subst hv27
    refine ops_rule (C := []) [((φ7 0), .cells #[.int .u8 90] 5), (b20, .cells #[.slice a20 (List.length (encF 9 n0 ++ (encF 9 (ss.take (min ((ss).length) 200)).length ++ (ss.take (min ((ss).length) 200))))) c20, .int .i64 0] 105)] [] 1 [] 0 (fun φ28 => [(43, .string ⟨((ss.take (min ((ss).length) 200))).toArray⟩)]) (fun φ28 => [((φ7 0), .cells #[.int .u8 90] 5), (b20, .cells #[.slice a20 (List.length (encF 9 n0 ++ (encF 9 (ss.take (min ((ss).length) 200)).length ++ (ss.take (min ((ss).length) 200))))) c20, .int .i64 0] 105)]) (fun φ28 => []) s trivial (fun φ28 => by kernel_rfl) ?_
    intro φ28 w28 s
    refine callF_rule (H := [((φ7 0), .cells #[.int .u8 90] 5), (b20, .cells #[.slice a20 (List.length (encF 9 n0 ++ (encF 9 (ss.take (min ((ss).length) 200)).length ++ (ss.take (min ((ss).length) 200))))) c20, .int .i64 0] 105)]) (F := []) (some 44) s (reftext_r (ss := (ss.take (min ((ss).length) 200))) (by simp only [List.length_take]; omega)) (by kernel_rfl) ?_
    intro v29 I29 w29 F29 le29 h29 s
    replace hl := BSl.mono le29 hl
    replace h4_1_0 := BSl.mono le29 h4_1_0
    replace hb9 := BSl.mono le29 hb9
    replace hb14 := BSl.mono le29 hb14
    replace hb17 := BSl.mono le29 hb17
    replace hb20 := BSl.mono le29 hb20
    replace hb27 := BSl.mono le29 hb27
    obtain ⟨I30, le30, hb30, s⟩ := freeze_row (H := [((φ7 0), .cells #[.int .u8 90] 5), (b20, .cells #[.slice a20 (List.length (encF 9 n0 ++ (encF 9 (ss.take (min ((ss).length) 200)).length ++ (ss.take (min ((ss).length) 200))))) c20, .int .i64 0] 105)]) (F := F29) s h29
    replace hl := BSl.mono le30 hl
    replace h4_1_0 := BSl.mono le30 h4_1_0
    replace hb9 := BSl.mono le30 hb9
    replace hb14 := BSl.mono le30 hb14
    replace hb17 := BSl.mono le30 hb17
    replace hb20 := BSl.mono le30 hb20
    replace hb27 := BSl.mono le30 hb27
    obtain ⟨a30, c30, hv30, hc30, hb30⟩ := hb30.open
    subst hv30
    refine ops_rule (C := []) [((φ7 0), .cells #[.int .u8 90] 5), (b20, .cells #[.slice a20 (List.length (encF 9 n0 ++ (encF 9 (ss.take (min ((ss).length) 200)).length ++ (ss.take (min ((ss).length) 200))))) c20, .int .i64 0] 105)] [] 1 [] 1 (fun φ31 => [(45, .slice (some ⟨(φ31 0), 0, none⟩) 3 3)]) (fun φ31 => [((φ7 0), .cells #[.int .u8 90] 5), (b20, .cells #[.slice a20 (List.length (encF 9 n0 ++ (encF 9 (ss.take (min ((ss).length) 200)).length ++ (ss.take (min ((ss).length) 200))))) c20, .int .i64 0] 105), ((φ31 0), .cells #[.slice ((xs4 1).p 0) (List.length (l.take 30)) ((xs4 1).n 0), .slice a27 (((encF 9 n0)).length) c27, .slice a30 (((encF 9 (ss.take (min ((ss).length) 200)).length ++ (ss.take (min ((ss).length) 200)))).length) c30] 34)]) (fun φ31 => []) s trivial (fun φ31 => by kernel_rfl) ?_
    intro φ31 w31 s
    obtain ⟨I32, le32, hk32, s⟩ := s.freezeAt 2 (φ31 0) (.cells #[.slice ((xs4 1).p 0) (List.length (l.take 30)) ((xs4 1).n 0), .slice a27 (((encF 9 n0)).length) c27, .slice a30 (((encF 9 (ss.take (min ((ss).length) 200)).length ++ (ss.take (min ((ss).length) 200)))).length) c30] 34) [((φ7 0), .cells #[.int .u8 90] 5), (b20, .cells #[.slice a20 (List.length (encF 9 n0 ++ (encF 9 (ss.take (min ((ss).length) 200)).length ++ (ss.take (min ((ss).length) 200))))) c20, .int .i64 0] 105)] (by kernel_rfl) (by kernel_rfl)
    replace hl := BSl.mono le32 hl
    replace h4_1_0 := BSl.mono le32 h4_1_0
    replace hb9 := BSl.mono le32 hb9
    replace hb14 := BSl.mono le32 hb14
    replace hb17 := BSl.mono le32 hb17
    replace hb20 := BSl.mono le32 hb20
    replace hb27 := BSl.mono le32 hb27
    replace hb30 := BSl.mono le32 hb30
    refine call_rule (some 46) s (join3_c hk32 h4_1_0 hb27 hb30 (by (try simp only [List.length_append, List.length_take, List.length_cons, List.length_nil]); have he1 := (encF_len 9 n0).2; have he2 := (encF_len 9 (ss.take (min ss.length 200)).length).2; (try simp only [List.length_take] at he2); omega) (by (try simp only [List.length_append, List.length_take, List.length_cons, List.length_nil]); have he1 := (encF_len 9 n0).2; have he2 := (encF_len 9 (ss.take (min ss.length 200)).length).2; (try simp only [List.length_take] at he2); omega) (by (try simp only [List.length_append, List.length_take, List.length_cons, List.length_nil]); have he1 := (encF_len 9 n0).2; have he2 := (encF_len 9 (ss.take (min ss.length 200)).length).2; (try simp only [List.length_take] at he2); omega)) (by kernel_rfl) ?_
    intro v33 I33 w33 le33 h33 s
    replace hl := BSl.mono le33 hl
    replace h4_1_0 := BSl.mono le33 h4_1_0
    replace hb9 := BSl.mono le33 hb9
    replace hb14 := BSl.mono le33 hb14
    replace hb17 := BSl.mono le33 hb17
    replace hb20 := BSl.mono le33 hb20
    replace hb27 := BSl.mono le33 hb27
    replace hb30 := BSl.mono le33 hb30
    replace hk32 := le33 _ _ hk32
    obtain ⟨a33, c33, rfl, h33_0⟩ := h33
    refine call_rule (some 47) s (sameE_c hb17 h33_0 (by (try simp only [List.length_append, List.length_take, List.length_cons, List.length_nil]); have he1 := (encF_len 9 n0).2; have he2 := (encF_len 9 (ss.take (min ss.length 200)).length).2; (try simp only [List.length_take] at he2); omega) (p_join)) (by kernel_rfl) ?_
    intro v34 I34 w34 le34 h34 s
    replace hl := BSl.mono le34 hl
    replace h4_1_0 := BSl.mono le34 h4_1_0
    replace hb9 := BSl.mono le34 hb9
    replace hb14 := BSl.mono le34 hb14
    replace hb17 := BSl.mono le34 hb17
    replace hb20 := BSl.mono le34 hb20
    replace hb27 := BSl.mono le34 hb27
    replace hb30 := BSl.mono le34 hb30
    replace h33_0 := BSl.mono le34 h33_0
    replace hk32 := le34 _ _ hk32
    obtain rfl := h34
    refine ops_rule (C := []) [((φ7 0), .cells #[.int .u8 90] 5), (b20, .cells #[.slice a20 (List.length (encF 9 n0 ++ (encF 9 (ss.take (min ((ss).length) 200)).length ++ (ss.take (min ((ss).length) 200))))) c20, .int .i64 0] 105)] [] 4 [] 0 (fun φ35 => [(51, .int .i64 (((List.length (l.take 30)) : Nat) : Int)), (50, .slice ((xs4 1).p 0) (List.length (l.take 30)) ((xs4 1).n 0)), (49, .slice a9 (((l.take 30) ++ ([90] : List UInt8)).length) c9), (48, .bool true)]) (fun φ35 => [((φ7 0), .cells #[.int .u8 90] 5), (b20, .cells #[.slice a20 (List.length (encF 9 n0 ++ (encF 9 (ss.take (min ((ss).length) 200)).length ++ (ss.take (min ((ss).length) 200))))) c20, .int .i64 0] 105)]) (fun φ35 => []) s trivial (fun φ35 => by kernel_rfl) ?_
    intro φ35 w35 s
    refine sem_rule (Instr.indexAt 34 (.slice a9 (((l.take 30) ++ ([90] : List UInt8)).length) c9) (.int .i64 (((List.length (l.take 30)) : Nat) : Int))) (some 52) (.pointer (pAt a9 (List.length (l.take 30)))) (by kernel_rfl) (bsl_idx hb9 (by have he1 := (encF_len 9 n0).2; have he2 := (encF_len 9 (ss.take (min ss.length 200)).length).2;  (try simp only [List.length_drop, List.length_take, List.length_append, List.length_cons, List.length_nil]); omega)) ?_
    refine sem_rule (Instr.loadAt 5 (.pointer (pAt a9 (List.length (l.take 30))))) (some 53) (.int .u8 (((((l.take 30) ++ ([90] : List UInt8)).getD (List.length (l.take 30)) 0).toNat : Nat) : Int)) (by kernel_rfl) (bsl_ld s.sub hb9 (by have he1 := (encF_len 9 n0).2; have he2 := (encF_len 9 (ss.take (min ss.length 200)).length).2;  (try simp only [List.length_drop, List.length_take, List.length_append, List.length_cons, List.length_nil]); omega)) ?_
    refine ops_rule (C := []) [((φ7 0), .cells #[.int .u8 90] 5), (b20, .cells #[.slice a20 (List.length (encF 9 n0 ++ (encF 9 (ss.take (min ((ss).length) 200)).length ++ (ss.take (min ((ss).length) 200))))) c20, .int .i64 0] 105)] [] 3 [] 0 (fun φ36 => [(56, .bool ((((((l.take 30) ++ ([90] : List UInt8)).getD (List.length (l.take 30)) 0).toNat : Nat) : Int) == ((90 : Nat) : Int))), (55, .bool ((((((l.take 30) ++ ([90] : List UInt8)).getD (List.length (l.take 30)) 0).toNat : Nat) : Int) == ((90 : Nat) : Int))), (54, .bool ((((((l.take 30) ++ ([90] : List UInt8)).getD (List.length (l.take 30)) 0).toNat : Nat) : Int) == ((90 : Nat) : Int)))]) (fun φ36 => [((φ7 0), .cells #[.int .u8 90] 5), (b20, .cells #[.slice a20 (List.length (encF 9 n0 ++ (encF 9 (ss.take (min ((ss).length) 200)).length ++ (ss.take (min ((ss).length) 200))))) c20, .int .i64 0] 105)]) (fun φ36 => []) s trivial (fun φ36 => by kernel_rfl) ?_
    intro φ36 w36 s
    rw [nat_eql (a := ((((l.take 30) ++ ([90] : List UInt8)).getD (List.length (l.take 30)) 0).toNat)) (b := 90)]
    rcases Bool.eq_false_or_eq_true (decide (((((l.take 30) ++ ([90] : List UInt8)).getD (List.length (l.take 30)) 0).toNat) = 90)) with hc37 | hc37
    ·
      rw [hc37]
      refine ops_rule (C := []) [((φ7 0), .cells #[.int .u8 90] 5), (b20, .cells #[.slice a20 (List.length (encF 9 n0 ++ (encF 9 (ss.take (min ((ss).length) 200)).length ++ (ss.take (min ((ss).length) 200))))) c20, .int .i64 0] 105)] [] 1 [] 0 (fun φ38 => [(57, .pointer (some ⟨b20, 0, none⟩))]) (fun φ38 => [((φ7 0), .cells #[.int .u8 90] 5), (b20, .cells #[.slice a20 (List.length (encF 9 n0 ++ (encF 9 (ss.take (min ((ss).length) 200)).length ++ (ss.take (min ((ss).length) 200))))) c20, .int .i64 0] 105)]) (fun φ38 => []) s trivial (fun φ38 => by kernel_rfl) ?_
      intro φ38 w38 s
      refine callB_rule (b := (b20, .cells #[.slice a20 (List.length (encF 9 n0 ++ (encF 9 (ss.take (min ((ss).length) 200)).length ++ (ss.take (min ((ss).length) 200))))) c20, .int .i64 0] 105)) (H := [((φ7 0), .cells #[.int .u8 90] 5), (b20, .cells #[.slice a20 (List.length (encF 9 n0 ++ (encF 9 (ss.take (min ((ss).length) 200)).length ++ (ss.take (min ((ss).length) 200))))) c20, .int .i64 0] 105)]) (F := []) (Hr := [((φ7 0), .cells #[.int .u8 90] 5)]) (some 58) 1 s (by kernel_rfl) (by kernel_rfl) (numI_c (r := b20) (n := n0) (rest := (encF 9 (ss.take (min ((ss).length) 200)).length ++ (ss.take (min ((ss).length) 200)))) hb20 (by (try simp only [List.length_append, List.length_take, List.length_cons, List.length_nil]); have he1 := (encF_len 9 n0).2; have he2 := (encF_len 9 (ss.take (min ss.length 200)).length).2; (try simp only [List.length_take] at he2); omega) rfl hn) (by kernel_rfl) ?_
      rintro v39 I39 w39 b39 le39 - h39 s
      replace hl := BSl.mono le39 hl
      replace h4_1_0 := BSl.mono le39 h4_1_0
      replace hb9 := BSl.mono le39 hb9
      replace hb14 := BSl.mono le39 hb14
      replace hb17 := BSl.mono le39 hb17
      replace hb20 := BSl.mono le39 hb20
      replace hb27 := BSl.mono le39 hb27
      replace hb30 := BSl.mono le39 hb30
      replace h33_0 := BSl.mono le39 h33_0
      replace hk32 := le39 _ _ hk32
      obtain ⟨a39, k39, c39, rfl, rfl, h39_0⟩ := h39
      refine ops_rule (C := []) [(b20, .cells #[.slice a39 k39 c39, .int .i64 0] 105), ((φ7 0), .cells #[.int .u8 90] 5)] [] 4 [] 0 (fun φ40 => [(62, .bool (((n0 : Nat) : Int) == ((n0 : Nat) : Int))), (61, .bool (((n0 : Nat) : Int) == ((n0 : Nat) : Int))), (60, .bool (((n0 : Nat) : Int) == ((n0 : Nat) : Int))), (59, .int .u64 ((n0 : Nat) : Int))]) (fun φ40 => [(b20, .cells #[.slice a39 k39 c39, .int .i64 0] 105), ((φ7 0), .cells #[.int .u8 90] 5)]) (fun φ40 => []) s trivial (fun φ40 => by kernel_rfl) ?_
      intro φ40 w40 s
      rw [(nat_eql (a := n0) (b := n0)).trans (decide_eq_true rfl)]
      refine ops_rule (C := []) [(b20, .cells #[.slice a39 k39 c39, .int .i64 0] 105), ((φ7 0), .cells #[.int .u8 90] 5)] [] 1 [] 0 (fun φ41 => [(63, .pointer (some ⟨b20, 0, none⟩))]) (fun φ41 => [(b20, .cells #[.slice a39 k39 c39, .int .i64 0] 105), ((φ7 0), .cells #[.int .u8 90] 5)]) (fun φ41 => []) s trivial (fun φ41 => by kernel_rfl) ?_
      intro φ41 w41 s
      refine callB_rule (b := (b20, .cells #[.slice a39 k39 c39, .int .i64 0] 105)) (H := [(b20, .cells #[.slice a39 k39 c39, .int .i64 0] 105), ((φ7 0), .cells #[.int .u8 90] 5)]) (F := []) (Hr := [((φ7 0), .cells #[.int .u8 90] 5)]) (some 64) 0 s (by kernel_rfl) (by kernel_rfl) (textI_c (r := b20) (n := (ss.take (min ((ss).length) 200)).length) (ss := (ss.take (min ((ss).length) 200))) (rest := []) h39_0 (by (try simp only [List.length_append, List.length_take, List.length_cons, List.length_nil]); have he1 := (encF_len 9 n0).2; have he2 := (encF_len 9 (ss.take (min ss.length 200)).length).2; (try simp only [List.length_take] at he2); omega) (by rw [List.append_nil]) rfl (by simp only [List.length_take]; omega) (by simp only [List.length_take]; omega)) (by kernel_rfl) ?_
      rintro v42 I42 w42 b42 le42 - h42 s
      replace hl := BSl.mono le42 hl
      replace h4_1_0 := BSl.mono le42 h4_1_0
      replace hb9 := BSl.mono le42 hb9
      replace hb14 := BSl.mono le42 hb14
      replace hb17 := BSl.mono le42 hb17
      replace hb20 := BSl.mono le42 hb20
      replace hb27 := BSl.mono le42 hb27
      replace hb30 := BSl.mono le42 hb30
      replace h33_0 := BSl.mono le42 h33_0
      replace h39_0 := BSl.mono le42 h39_0
      replace hk32 := le42 _ _ hk32
      obtain ⟨a42, k42, c42, rfl, rfl, h42_0⟩ := h42
      refine ops_rule (C := []) [(b20, .cells #[.slice a42 k42 c42, .int .i64 0] 105), ((φ7 0), .cells #[.int .u8 90] 5)] [] 4 [] 0 (fun φ43 => [(68, .bool ((⟨((ss.take (min ((ss).length) 200))).toArray⟩ : ByteArray).toList == (⟨((ss.take (min ((ss).length) 200))).toArray⟩ : ByteArray).toList)), (67, .bool ((⟨((ss.take (min ((ss).length) 200))).toArray⟩ : ByteArray).toList == (⟨((ss.take (min ((ss).length) 200))).toArray⟩ : ByteArray).toList)), (66, .bool ((⟨((ss.take (min ((ss).length) 200))).toArray⟩ : ByteArray).toList == (⟨((ss.take (min ((ss).length) 200))).toArray⟩ : ByteArray).toList)), (65, .string ⟨((ss.take (min ((ss).length) 200))).toArray⟩)]) (fun φ43 => [(b20, .cells #[.slice a42 k42 c42, .int .i64 0] 105), ((φ7 0), .cells #[.int .u8 90] 5)]) (fun φ43 => []) s trivial (fun φ43 => by kernel_rfl) ?_
      intro φ43 w43 s
      rw [beq_self_eq_true _]
      refine ops_rule (C := []) [(b20, .cells #[.slice a42 k42 c42, .int .i64 0] 105), ((φ7 0), .cells #[.int .u8 90] 5)] [] 1 [] 0 (fun φ44 => [(69, .pointer (some ⟨b20, 0, none⟩))]) (fun φ44 => [(b20, .cells #[.slice a42 k42 c42, .int .i64 0] 105), ((φ7 0), .cells #[.int .u8 90] 5)]) (fun φ44 => []) s trivial (fun φ44 => by kernel_rfl) ?_
      intro φ44 w44 s
      obtain rfl : k42 = 0 := (h42_0).cap.1
      refine callB_rule (b := (b20, .cells #[.slice a42 0 c42, .int .i64 0] 105)) (H := [(b20, .cells #[.slice a42 0 c42, .int .i64 0] 105), ((φ7 0), .cells #[.int .u8 90] 5)]) (F := []) (Hr := [((φ7 0), .cells #[.int .u8 90] 5)]) (some 70) 0 s (by kernel_rfl) (by kernel_rfl) (endI_c (r := b20) (a := a42) (c := c42)) (by kernel_rfl) ?_
      rintro v46 I46 w46 b46 le46 - h46 s
      replace hl := BSl.mono le46 hl
      replace h4_1_0 := BSl.mono le46 h4_1_0
      replace hb9 := BSl.mono le46 hb9
      replace hb14 := BSl.mono le46 hb14
      replace hb17 := BSl.mono le46 hb17
      replace hb20 := BSl.mono le46 hb20
      replace hb27 := BSl.mono le46 hb27
      replace hb30 := BSl.mono le46 hb30
      replace h33_0 := BSl.mono le46 h33_0
      replace h39_0 := BSl.mono le46 h39_0
      replace h42_0 := BSl.mono le46 h42_0
      replace hk32 := le46 _ _ hk32
      obtain ⟨rfl, rfl⟩ := h46
      refine ops_rule (C := []) [(b20, .cells #[.slice a42 0 c42, .int .i64 0] 105), ((φ7 0), .cells #[.int .u8 90] 5)] [] 4 [] 0 (fun φ47 => [(74, .pointer none), (73, .bool true), (72, .bool true), (71, .bool true)]) (fun φ47 => [(b20, .cells #[.slice a42 0 c42, .int .i64 0] 105), ((φ7 0), .cells #[.int .u8 90] 5)]) (fun φ47 => []) s trivial (fun φ47 => by kernel_rfl) ?_
      intro φ47 w47 s
      refine call_rule (some 75) s (byte_nil) (by kernel_rfl) ?_
      intro v48 I48 w48 le48 h48 s
      replace hl := BSl.mono le48 hl
      replace h4_1_0 := BSl.mono le48 h4_1_0
      replace hb9 := BSl.mono le48 hb9
      replace hb14 := BSl.mono le48 hb14
      replace hb17 := BSl.mono le48 hb17
      replace hb20 := BSl.mono le48 hb20
      replace hb27 := BSl.mono le48 hb27
      replace hb30 := BSl.mono le48 hb30
      replace h33_0 := BSl.mono le48 h33_0
      replace h39_0 := BSl.mono le48 h39_0
      replace h42_0 := BSl.mono le48 h42_0
      replace hk32 := le48 _ _ hk32
      obtain rfl := h48
      refine ops_rule (C := []) [(b20, .cells #[.slice a42 0 c42, .int .i64 0] 105), ((φ7 0), .cells #[.int .u8 90] 5)] [] 4 [] 0 (fun φ49 => [(79, .pointer none), (78, .bool true), (77, .bool true), (76, .bool true)]) (fun φ49 => [(b20, .cells #[.slice a42 0 c42, .int .i64 0] 105), ((φ7 0), .cells #[.int .u8 90] 5)]) (fun φ49 => []) s trivial (fun φ49 => by kernel_rfl) ?_
      intro φ49 w49 s
      refine call_rule (some 80) s (numI_nil) (by kernel_rfl) ?_
      intro v50 I50 w50 le50 h50 s
      replace hl := BSl.mono le50 hl
      replace h4_1_0 := BSl.mono le50 h4_1_0
      replace hb9 := BSl.mono le50 hb9
      replace hb14 := BSl.mono le50 hb14
      replace hb17 := BSl.mono le50 hb17
      replace hb20 := BSl.mono le50 hb20
      replace hb27 := BSl.mono le50 hb27
      replace hb30 := BSl.mono le50 hb30
      replace h33_0 := BSl.mono le50 h33_0
      replace h39_0 := BSl.mono le50 h39_0
      replace h42_0 := BSl.mono le50 h42_0
      replace hk32 := le50 _ _ hk32
      obtain rfl := h50
      refine ops_rule (C := []) [(b20, .cells #[.slice a42 0 c42, .int .i64 0] 105), ((φ7 0), .cells #[.int .u8 90] 5)] [] 4 [] 0 (fun φ51 => [(84, .pointer none), (83, .bool true), (82, .bool true), (81, .bool true)]) (fun φ51 => [(b20, .cells #[.slice a42 0 c42, .int .i64 0] 105), ((φ7 0), .cells #[.int .u8 90] 5)]) (fun φ51 => []) s trivial (fun φ51 => by kernel_rfl) ?_
      intro φ51 w51 s
      refine call_rule (some 85) s (textI_nil) (by kernel_rfl) ?_
      intro v52 I52 w52 le52 h52 s
      replace hl := BSl.mono le52 hl
      replace h4_1_0 := BSl.mono le52 h4_1_0
      replace hb9 := BSl.mono le52 hb9
      replace hb14 := BSl.mono le52 hb14
      replace hb17 := BSl.mono le52 hb17
      replace hb20 := BSl.mono le52 hb20
      replace hb27 := BSl.mono le52 hb27
      replace hb30 := BSl.mono le52 hb30
      replace h33_0 := BSl.mono le52 h33_0
      replace h39_0 := BSl.mono le52 h39_0
      replace h42_0 := BSl.mono le52 h42_0
      replace hk32 := le52 _ _ hk32
      obtain rfl := h52
      refine ops_rule (C := []) [(b20, .cells #[.slice a42 0 c42, .int .i64 0] 105), ((φ7 0), .cells #[.int .u8 90] 5)] [] 4 [] 0 (fun φ53 => [(89, .pointer none), (88, .bool true), (87, .bool true), (86, .bool true)]) (fun φ53 => [(b20, .cells #[.slice a42 0 c42, .int .i64 0] 105), ((φ7 0), .cells #[.int .u8 90] 5)]) (fun φ53 => []) s trivial (fun φ53 => by kernel_rfl) ?_
      intro φ53 w53 s
      refine call_rule (some 90) s (leftI_nil) (by kernel_rfl) ?_
      intro v54 I54 w54 le54 h54 s
      replace hl := BSl.mono le54 hl
      replace h4_1_0 := BSl.mono le54 h4_1_0
      replace hb9 := BSl.mono le54 hb9
      replace hb14 := BSl.mono le54 hb14
      replace hb17 := BSl.mono le54 hb17
      replace hb20 := BSl.mono le54 hb20
      replace hb27 := BSl.mono le54 hb27
      replace hb30 := BSl.mono le54 hb30
      replace h33_0 := BSl.mono le54 h33_0
      replace h39_0 := BSl.mono le54 h39_0
      replace h42_0 := BSl.mono le54 h42_0
      replace hk32 := le54 _ _ hk32
      obtain rfl := h54
      refine ops_rule (C := []) [(b20, .cells #[.slice a42 0 c42, .int .i64 0] 105), ((φ7 0), .cells #[.int .u8 90] 5)] [] 4 [] 0 (fun φ55 => [(94, .pointer none), (93, .bool true), (92, .bool true), (91, .bool true)]) (fun φ55 => [(b20, .cells #[.slice a42 0 c42, .int .i64 0] 105), ((φ7 0), .cells #[.int .u8 90] 5)]) (fun φ55 => []) s trivial (fun φ55 => by kernel_rfl) ?_
      intro φ55 w55 s
      refine call_rule (some 95) s (errI_nil) (by kernel_rfl) ?_
      intro v56 I56 w56 le56 h56 s
      replace hl := BSl.mono le56 hl
      replace h4_1_0 := BSl.mono le56 h4_1_0
      replace hb9 := BSl.mono le56 hb9
      replace hb14 := BSl.mono le56 hb14
      replace hb17 := BSl.mono le56 hb17
      replace hb20 := BSl.mono le56 hb20
      replace hb27 := BSl.mono le56 hb27
      replace hb30 := BSl.mono le56 hb30
      replace h33_0 := BSl.mono le56 h33_0
      replace h39_0 := BSl.mono le56 h39_0
      replace h42_0 := BSl.mono le56 h42_0
      replace hk32 := le56 _ _ hk32
      obtain rfl := h56
      refine ops_rule (C := []) [(b20, .cells #[.slice a42 0 c42, .int .i64 0] 105), ((φ7 0), .cells #[.int .u8 90] 5)] [] 4 [] 0 (fun φ57 => [(99, .pointer none), (98, .bool true), (97, .bool true), (96, .bool true)]) (fun φ57 => [(b20, .cells #[.slice a42 0 c42, .int .i64 0] 105), ((φ7 0), .cells #[.int .u8 90] 5)]) (fun φ57 => []) s trivial (fun φ57 => by kernel_rfl) ?_
      intro φ57 w57 s
      refine call_rule (some 100) s (endI_nil) (by kernel_rfl) ?_
      intro v58 I58 w58 le58 h58 s
      replace hl := BSl.mono le58 hl
      replace h4_1_0 := BSl.mono le58 h4_1_0
      replace hb9 := BSl.mono le58 hb9
      replace hb14 := BSl.mono le58 hb14
      replace hb17 := BSl.mono le58 hb17
      replace hb20 := BSl.mono le58 hb20
      replace hb27 := BSl.mono le58 hb27
      replace hb30 := BSl.mono le58 hb30
      replace h33_0 := BSl.mono le58 h33_0
      replace h39_0 := BSl.mono le58 h39_0
      replace h42_0 := BSl.mono le58 h42_0
      replace hk32 := le58 _ _ hk32
      obtain rfl := h58
      refine ops_rule (C := []) [(b20, .cells #[.slice a42 0 c42, .int .i64 0] 105), ((φ7 0), .cells #[.int .u8 90] 5)] [] 3 [] 0 (fun φ59 => [(6, .bool true), (102, .bool true), (101, .bool true)]) (fun φ59 => [(b20, .cells #[.slice a42 0 c42, .int .i64 0] 105), ((φ7 0), .cells #[.int .u8 90] 5)]) (fun φ59 => []) s trivial (fun φ59 => by kernel_rfl) ?_
      intro φ59 w59 s
      refine ops_done (by kernel_rfl) ?_
      refine wp_ret ?_
      refine ret_rule (C := []) [(b20, .cells #[.slice a42 0 c42, .int .i64 0] 105), ((φ7 0), .cells #[.int .u8 90] 5)] [] (.bool true) [] [] s trivial (by kernel_rfl) ?_
      exact ⟨_, _, _, rfl, s, rfl⟩
    ·
      exact absurd room_last (of_decide_eq_false hc37)

end Go.Proofs.Ytpnlaeapnokipaa
