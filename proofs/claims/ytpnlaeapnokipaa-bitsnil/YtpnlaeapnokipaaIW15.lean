/- Nil ones; rows that come back. -/
import Derived.Test.YtpnlaeapnokipaaIW14
import Derived.Scope
set_option linter.all false
set_option maxRecDepth 100000
namespace Go.Proofs.Ytpnlaeapnokipaa
open Go.RowKit Go.Sep
attribute [local irreducible] Go.wpList Go.Code.wp

theorem row_of_nil {f : FuncId} {args : Array Value} {I : IM} (h : Fun Try.prog f args I (fun v J => v = .slice none 0 0)) : FunM Try.prog f args I [] (fun v J F => RowH 5 1 v 0 (([] : List UInt8).map bV) F) := fun w hw _ =>
  (h w hw).mono fun e w' ⟨v, I', H', he, s, hv⟩ => ⟨v, I', [], he, s.drop (List.nil_sublist _), by rw [hv]; exact row_nilB⟩
theorem row_slice {v : Value} {n : Nat} {xs : List Value} {F : List OB} (h : RowH 5 1 v n xs F) : ∃ a c, v = .slice a n c := by
  rcases h.2 with ⟨rfl, rfl, _⟩ | ⟨g, cap, cur, rfl, _⟩
  · exact ⟨none, 0, rfl⟩
  · exact ⟨_, _, rfl⟩
theorem perm_ins {H F F2 : List OB} {B : OB} : ((H ++ F) ++ (B :: F2)).Perm ((H ++ (B :: F)) ++ F2) := by
  rw [List.append_assoc, List.append_assoc]
  refine List.Perm.append_left H ?_
  exact (List.perm_middle (l₁ := F) (a := B) (l₂ := F2))
theorem cloneAny_r {I : IM} {l : List UInt8} {a : Option Addr} {n c : Nat} (hl : BSl I l (.slice a n c)) (hn : l.length ≤ 1000000000) : FunM Try.prog 66 #[.slice a n c] I [] (fun v J F => RowH 5 1 v l.length (l.map bV) F) := by
  cases a with
  | none => have := bsl_none hl; subst this; exact row_of_nil clone_none
  | some x => exact clone_row hl hn

theorem bclone_none {I : IM} {n c : Nat} : Fun Try.prog 30 #[.slice none n c] I (fun v J => v = .slice none 0 0) := by
  refine enter_rule 8 [(0, .slice none n c)] Try.func30 rfl (by kernel_rfl) ?_
  intro w s
  refine wp_seq ?_
  refine region_rule ?_
  refine ops_rule (C := []) [] [] 1 [] 0 (fun φ1 => [(2, .slice none 0 0)]) (fun φ1 => []) (fun φ1 => []) s trivial (fun φ1 => by kernel_rfl) ?_
  intro φ1 w1 s
  refine ops_done (by kernel_rfl) ?_
  refine wp_seq ?_
  refine wp_seq ?_
  refine region_rule ?_
  refine ops_rule (C := []) [] [] 1 [] 0 (fun φ2 => [(3, .slice none n c)]) (fun φ2 => []) (fun φ2 => []) s trivial (fun φ2 => by kernel_rfl) ?_
  intro φ2 w2 s
  refine sem_rule (binOp .eql 34 (.slice none n c) (.slice none 0 0)) (some 4) (.bool true) (by kernel_rfl) (run_eqnil) ?_
  refine ops_done (by kernel_rfl) ?_
  refine cond_true_rule (b := true) (by kernel_rfl) rfl ?_
  refine wp_seq ?_
  refine region_rule ?_
  refine ops_rule (C := []) [] [] 1 [] 0 (fun φ3 => [(2, .slice none 0 0)]) (fun φ3 => []) (fun φ3 => []) s trivial (fun φ3 => by kernel_rfl) ?_
  intro φ3 w3 s
  refine ops_done (by kernel_rfl) ?_
  refine wp_ret ?_
  refine ret_rule (C := []) [] [] (.slice none 0 0) [] [] s trivial (by kernel_rfl) ?_
  exact ⟨_, _, _, rfl, s, rfl⟩

set_option maxHeartbeats 400000 in
theorem bclone_some {I : IM} {l : List UInt8} {x : Addr} {c : Nat} (hl : BSl I l (.slice (some x) l.length c)) (hn : l.length ≤ 1000000000) : FunM Try.prog 30 #[.slice (some x) l.length c] I [] (fun v J F => RowH 5 1 v l.length (l.map bV) F) := by
  refine enterM_rule 8 [(0, .slice (some x) l.length c)] Try.func30 rfl (by kernel_rfl) ?_
  intro w s
  refine wp_seq ?_
  refine region_rule ?_
  refine ops_rule (C := []) [] [] 1 [] 0 (fun φ1 => [(2, .slice none 0 0)]) (fun φ1 => []) (fun φ1 => []) s trivial (fun φ1 => by kernel_rfl) ?_
  intro φ1 w1 s
  refine ops_done (by kernel_rfl) ?_
  refine wp_seq ?_
  refine wp_seq ?_
  refine region_rule ?_
  refine ops_rule (C := []) [] [] 1 [] 0 (fun φ2 => [(3, .slice (some x) l.length c)]) (fun φ2 => []) (fun φ2 => []) s trivial (fun φ2 => by kernel_rfl) ?_
  intro φ2 w2 s
  refine sem_rule (binOp .eql 34 (.slice (some x) l.length c) (.slice none 0 0)) (some 4) (.bool false) (by kernel_rfl) (run_eqnil) ?_
  refine ops_done (by kernel_rfl) ?_
  refine cond_false_rule (b := false) (by kernel_rfl) rfl ?_
  refine wp_skip ?_
  refine wp_seq ?_
  refine region_rule ?_
  refine ops_rule (C := []) [] [] 2 [] 1 (fun φ3 => [(6, .slice (some x) l.length c), (5, .slice (some ⟨(φ3 0), 0, none⟩) 0 0)]) (fun φ3 => [((φ3 0), .cells #[] 5)]) (fun φ3 => []) s trivial (fun φ3 => by kernel_rfl) ?_
  intro φ3 w3 s
  refine append_rule (H := []) (F := [((φ3 0), .cells #[] 5)]) 34 34 5 Try.t5 (.int .u8 0) 1 1 (some 7) s Try.underlying34 (by kernel_rfl) (by kernel_rfl) (by kernel_rfl) (by kernel_rfl) (by kernel_rfl) (by decide) (row_new (φ3 0)) (src_bsl s.sub hl) (by   (try simp only [maxLen, List.length_append, List.length_cons, List.length_nil, List.length_take, List.length_drop]); omega) (by   (try simp only [maxLen, List.length_append, List.length_cons, List.length_nil, List.length_take, List.length_drop]); omega) (by kernel_rfl) ?_
  intro v4 w4 F4 s h4
  replace h4 : RowH 5 1 v4 ((l).length) ((l).map bV) F4 := row_app (x := []) (y := l) h4
  refine ops_rule (C := []) [] F4 1 [] 0 (fun φ5 => [(2, v4)]) (fun φ5 => []) (fun φ5 => []) s trivial (fun φ5 => by kernel_rfl) ?_
  intro φ5 w5 s
  refine ops_done (by kernel_rfl) ?_
  refine wp_ret ?_
  refine ret_rule (C := []) [] F4 (v4) [] [] s trivial (by kernel_rfl) ?_
  replace s := s.drop (List.sublist_append_right [] F4)
  exact ⟨_, _, _, rfl, s, h4⟩

theorem bclone_r {I : IM} {l : List UInt8} {a : Option Addr} {n c : Nat} (hl : BSl I l (.slice a n c)) (hn : l.length ≤ 1000000000) : FunM Try.prog 30 #[.slice a n c] I [] (fun v J F => RowH 5 1 v l.length (l.map bV) F) := by
  obtain ⟨rfl, -⟩ := hl.cap
  cases a with
  | none => have := bsl_none hl; subst this; exact row_of_nil bclone_none
  | some x => exact bclone_some hl hn

theorem newReader_r {I : IM} {l : List UInt8} {a : Option Addr} {n c : Nat} (hl : BSl I l (.slice a n c)) (hn : l.length ≤ 1000000) : FunM Try.prog 24 #[.slice a n c] I [] (fun v J F' => ∃ b v' F2, v = .pointer (some ⟨b, 0, none⟩) ∧ F' = (b, .cells #[v', .int .i64 0, .int .i64 0] 99) :: F2 ∧ RowH 5 1 v' l.length (l.map bV) F2) := by
  obtain ⟨rfl, -⟩ := hl.cap
  refine enterM_rule 7 [(0, .slice a l.length c)] Try.func24 rfl (by kernel_rfl) ?_
  intro w s
  refine wp_seq ?_
  refine region_rule ?_
  refine ops_rule (C := []) [] [] 1 [] 0 (fun φ1 => [(2, .pointer none)]) (fun φ1 => []) (fun φ1 => []) s trivial (fun φ1 => by kernel_rfl) ?_
  intro φ1 w1 s
  refine ops_done (by kernel_rfl) ?_
  refine wp_seq ?_
  refine region_rule ?_
  refine ops_rule (C := []) [] [] 1 [] 0 (fun φ2 => [(3, .slice a l.length c)]) (fun φ2 => []) (fun φ2 => []) s trivial (fun φ2 => by kernel_rfl) ?_
  intro φ2 w2 s
  refine callF_rule (H := []) (F := []) (some 4) s (cloneAny_r hl (by omega)) (by kernel_rfl) ?_
  intro v3 I3 w3 F3 le3 h3 s
  replace hl := BSl.mono le3 hl
  obtain ⟨a4, c4, hv4⟩ := row_slice h3
  subst hv4
  refine ops_rule (C := []) [] F3 3 [] 1 (fun φ5 => [(2, .pointer (some ⟨(φ5 0), 0, none⟩)), (6, .pointer (some ⟨(φ5 0), 0, none⟩)), (5, .agg #[.slice a4 ((l).length) c4, .int .i64 0, .int .i64 0])]) (fun φ5 => [((φ5 0), .cells #[.slice a4 ((l).length) c4, .int .i64 0, .int .i64 0] 99)]) (fun φ5 => []) s trivial (fun φ5 => by kernel_rfl) ?_
  intro φ5 w5 s
  refine ops_done (by kernel_rfl) ?_
  refine wp_ret ?_
  refine ret_rule (C := []) [((φ5 0), .cells #[.slice a4 ((l).length) c4, .int .i64 0, .int .i64 0] 99)] F3 (.pointer (some ⟨(φ5 0), 0, none⟩)) [] [] s trivial (by kernel_rfl) ?_
  exact ⟨_, _, _, rfl, s, ⟨_, _, _, rfl, rfl, h3⟩⟩

set_option maxHeartbeats 1000000 in
theorem bytes_r {I : IM} {b cnt : Nat} {bs : List Bool} {v0 : Value} {F : List OB} (hp : 0 < bs.length) (hl9 : bs.length ≤ 1000000) (h : RowH 5 1 v0 (pk bs).length ((pk bs).map bV) F) : FunM Try.prog 20 #[.pointer (some ⟨b, 0, none⟩)] I ((b, .cells #[v0, .int .i64 ((cnt : Nat) : Int)] 96) :: F) (fun v J H' => ∃ (g cap : Nat) (cur : Array Value) (g2 cap2 : Nat) (cur2 : Array Value), v = .slice (some ⟨g2, 0, none⟩) (pk bs).length cap2 ∧ v0 = .slice (some ⟨g, 0, none⟩) (pk bs).length cap ∧ H' = [(b, .cells #[v0, .int .i64 ((cnt : Nat) : Int)] 96), (g, .cells cur 5), (g2, .cells cur2 5)] ∧ RowH 5 1 (.slice (some ⟨g, 0, none⟩) (pk bs).length cap) (pk bs).length ((pk bs).map bV) [(g, .cells cur 5)] ∧ RowH 5 1 (.slice (some ⟨g2, 0, none⟩) (pk bs).length cap2) (pk bs).length ((pk bs).map bV) [(g2, .cells cur2 5)]) := by
  refine enterM_rule 10 [(0, .pointer (some ⟨b, 0, none⟩))] Try.func20 rfl (by kernel_rfl) ?_
  intro w s
  refine wp_seq ?_
  refine region_rule ?_
  refine ops_rule (C := []) [(b, .cells #[v0, .int .i64 ((cnt : Nat) : Int)] 96)] F 1 [] 0 (fun φ1 => [(2, .slice none 0 0)]) (fun φ1 => [(b, .cells #[v0, .int .i64 ((cnt : Nat) : Int)] 96)]) (fun φ1 => []) s trivial (fun φ1 => by kernel_rfl) ?_
  intro φ1 w1 s
  refine ops_done (by kernel_rfl) ?_
  refine wp_seq ?_
  refine wp_seq ?_
  refine region_rule ?_
  refine ops_rule (C := []) [(b, .cells #[v0, .int .i64 ((cnt : Nat) : Int)] 96)] F 2 [] 0 (fun φ2 => [(4, .bool false), (3, .pointer (some ⟨b, 0, none⟩))]) (fun φ2 => [(b, .cells #[v0, .int .i64 ((cnt : Nat) : Int)] 96)]) (fun φ2 => []) s trivial (fun φ2 => by kernel_rfl) ?_
  intro φ2 w2 s
  refine ops_done (by kernel_rfl) ?_
  refine cond_false_rule (b := false) (by kernel_rfl) rfl ?_
  refine wp_skip ?_
  refine wp_seq ?_
  refine region_rule ?_
  refine ops_rule (C := []) [(b, .cells #[v0, .int .i64 ((cnt : Nat) : Int)] 96)] F 4 [.o 0] 0 (fun φ3 => [(8, v0), (7, .pointer (some ⟨b, 0, none⟩)), (6, .pointer (some ⟨b, 0, none⟩)), (5, .pointer (some ⟨b, 0, none⟩))]) (fun φ3 => [(b, .cells #[v0, .int .i64 ((cnt : Nat) : Int)] 96)]) (fun φ3 => [b]) s trivial (fun φ3 => by kernel_rfl) ?_
  intro φ3 w3 s
  obtain ⟨g4, cap4, cur4, hv4, hF4, hc4, hrow4⟩ := row_open h (by rw [pk_len]; omega)
  subst hv4
  subst hF4
  have hle5 : IM.Le I (IM.add I g4 (.cells cur4 5)) := IM.le_add (s.free (g4, .cells cur4 5) (by simp)) _
  refine callLF_rule (H := ([(b, .cells #[.slice (some ⟨g4, 0, none⟩) ((pk bs).length) cap4, .int .i64 ((cnt : Nat) : Int)] 96), (g4, .cells cur4 5)] ++ [])) (R := fun v F' => RowH 5 1 v (pk bs).length ((pk bs).map bV) F') (some 9) s (IM.add I g4 (.cells cur4 5)) hle5 (add_sub (by simp)) (clone_row (row_lend (I := I) hrow4) (by rw [pk_len]; omega)) (by kernel_rfl) ?_
  intro v6 w6 F6 h6 s
  obtain ⟨g7, cap7, cur7, hv7, hF7, hc7, hrow7⟩ := row_open h6 (by rw [pk_len]; omega)
  subst hv7
  subst hF7
  refine ops_rule (C := []) [(b, .cells #[.slice (some ⟨g4, 0, none⟩) ((pk bs).length) cap4, .int .i64 ((cnt : Nat) : Int)] 96), (g4, .cells cur4 5), (g7, .cells cur7 5)] [] 1 [] 0 (fun φ8 => [(2, .slice (some ⟨g7, 0, none⟩) ((pk bs).length) cap7)]) (fun φ8 => [(b, .cells #[.slice (some ⟨g4, 0, none⟩) ((pk bs).length) cap4, .int .i64 ((cnt : Nat) : Int)] 96), (g4, .cells cur4 5), (g7, .cells cur7 5)]) (fun φ8 => []) s trivial (fun φ8 => by kernel_rfl) ?_
  intro φ8 w8 s
  refine ops_done (by kernel_rfl) ?_
  refine wp_ret ?_
  refine ret_rule (C := []) [(b, .cells #[.slice (some ⟨g4, 0, none⟩) ((pk bs).length) cap4, .int .i64 ((cnt : Nat) : Int)] 96), (g4, .cells cur4 5), (g7, .cells cur7 5)] [] (.slice (some ⟨g7, 0, none⟩) ((pk bs).length) cap7) [] [] s trivial (by kernel_rfl) ?_
  replace s := s.drop (List.Sublist.append (List.Sublist.cons₂ _ (List.Sublist.cons₂ _ (List.Sublist.cons₂ _ List.Sublist.slnil))) (List.Sublist.refl []))
  exact ⟨_, _, _, rfl, s, ⟨_, _, _, _, _, _, rfl, rfl, rfl, hrow4, hrow7⟩⟩

set_option maxHeartbeats 400000 in
theorem put_nil {I : IM} {n k : Nat} : Fun Try.prog 16 #[.pointer none, .int .u64 ((n : Nat) : Int), .int .i64 ((k : Nat) : Int)] I (fun v J => v = .tuple #[]) := by
  refine enter_rule 25 [(0, .pointer none), (1, .int .u64 ((n : Nat) : Int)), (2, .int .i64 ((k : Nat) : Int))] Try.func16 rfl (by kernel_rfl) ?_
  intro w s
  refine wp_seq ?_
  refine wp_seq ?_
  refine region_rule ?_
  refine ops_rule (C := []) [] [] 2 [] 0 (fun φ1 => [(8, .bool true), (7, .pointer none)]) (fun φ1 => []) (fun φ1 => []) s trivial (fun φ1 => by kernel_rfl) ?_
  intro φ1 w1 s
  refine ops_done (by kernel_rfl) ?_
  refine cond_true_rule (b := true) (by kernel_rfl) rfl ?_
  refine wp_ret ?_
  refine ret_rule (C := []) [] [] (.tuple #[]) [] [] s trivial (by kernel_rfl) ?_
  exact ⟨_, _, _, rfl, s, rfl⟩

set_option maxHeartbeats 400000 in
theorem lenW_nil {I : IM} : Fun Try.prog 21 #[.pointer none] I (fun v J => v = .int .i64 0) := by
  refine enter_rule 9 [(0, .pointer none)] Try.func21 rfl (by kernel_rfl) ?_
  intro w s
  refine wp_seq ?_
  refine region_rule ?_
  refine ops_rule (C := []) [] [] 1 [] 0 (fun φ1 => [(2, .int .i64 0)]) (fun φ1 => []) (fun φ1 => []) s trivial (fun φ1 => by kernel_rfl) ?_
  intro φ1 w1 s
  refine ops_done (by kernel_rfl) ?_
  refine wp_seq ?_
  refine wp_seq ?_
  refine region_rule ?_
  refine ops_rule (C := []) [] [] 2 [] 0 (fun φ2 => [(4, .bool true), (3, .pointer none)]) (fun φ2 => []) (fun φ2 => []) s trivial (fun φ2 => by kernel_rfl) ?_
  intro φ2 w2 s
  refine ops_done (by kernel_rfl) ?_
  refine cond_true_rule (b := true) (by kernel_rfl) rfl ?_
  refine wp_seq ?_
  refine region_rule ?_
  refine ops_rule (C := []) [] [] 1 [] 0 (fun φ3 => [(2, .int .i64 0)]) (fun φ3 => []) (fun φ3 => []) s trivial (fun φ3 => by kernel_rfl) ?_
  intro φ3 w3 s
  refine ops_done (by kernel_rfl) ?_
  refine wp_ret ?_
  refine ret_rule (C := []) [] [] (.int .i64 0) [] [] s trivial (by kernel_rfl) ?_
  exact ⟨_, _, _, rfl, s, rfl⟩

set_option maxHeartbeats 400000 in
theorem bytes_nil {I : IM} : Fun Try.prog 20 #[.pointer none] I (fun v J => v = .slice none 0 0) := by
  refine enter_rule 10 [(0, .pointer none)] Try.func20 rfl (by kernel_rfl) ?_
  intro w s
  refine wp_seq ?_
  refine region_rule ?_
  refine ops_rule (C := []) [] [] 1 [] 0 (fun φ1 => [(2, .slice none 0 0)]) (fun φ1 => []) (fun φ1 => []) s trivial (fun φ1 => by kernel_rfl) ?_
  intro φ1 w1 s
  refine ops_done (by kernel_rfl) ?_
  refine wp_seq ?_
  refine wp_seq ?_
  refine region_rule ?_
  refine ops_rule (C := []) [] [] 2 [] 0 (fun φ2 => [(4, .bool true), (3, .pointer none)]) (fun φ2 => []) (fun φ2 => []) s trivial (fun φ2 => by kernel_rfl) ?_
  intro φ2 w2 s
  refine ops_done (by kernel_rfl) ?_
  refine cond_true_rule (b := true) (by kernel_rfl) rfl ?_
  refine wp_seq ?_
  refine region_rule ?_
  refine ops_rule (C := []) [] [] 1 [] 0 (fun φ3 => [(2, .slice none 0 0)]) (fun φ3 => []) (fun φ3 => []) s trivial (fun φ3 => by kernel_rfl) ?_
  intro φ3 w3 s
  refine ops_done (by kernel_rfl) ?_
  refine wp_ret ?_
  refine ret_rule (C := []) [] [] (.slice none 0 0) [] [] s trivial (by kernel_rfl) ?_
  exact ⟨_, _, _, rfl, s, rfl⟩

set_option maxHeartbeats 400000 in
theorem numR_nil {I : IM} : Fun Try.prog 25 #[.pointer none] I (fun v J => v = .int .u64 0) := by
  refine enter_rule 49 [(0, .pointer none)] Try.func25 rfl (by kernel_rfl) ?_
  intro w s
  refine wp_seq ?_
  refine region_rule ?_
  refine ops_rule (C := []) [] [] 1 [] 0 (fun φ1 => [(2, .int .u64 0)]) (fun φ1 => []) (fun φ1 => []) s trivial (fun φ1 => by kernel_rfl) ?_
  intro φ1 w1 s
  refine ops_done (by kernel_rfl) ?_
  refine Go.wp_scope_straight ?_
  refine wp_seq ?_
  refine wp_seq ?_
  refine region_rule ?_
  refine ops_rule (C := []) [] [] 1 [] 0 (fun φ2 => [(7, .pointer none)]) (fun φ2 => []) (fun φ2 => []) s trivial (fun φ2 => by kernel_rfl) ?_
  intro φ2 w2 s
  refine call_rule (some 8) s (err_nil) (by kernel_rfl) ?_
  intro v3 I3 w3 le3 h3 s
  obtain rfl := h3
  refine ops_rule (C := []) [] [] 1 [] 0 (fun φ4 => [(9, .bool true)]) (fun φ4 => []) (fun φ4 => []) s trivial (fun φ4 => by kernel_rfl) ?_
  intro φ4 w4 s
  refine ops_done (by kernel_rfl) ?_
  refine cond_true_rule (b := true) (by kernel_rfl) rfl ?_
  refine wp_seq ?_
  refine region_rule ?_
  refine ops_rule (C := []) [] [] 1 [] 0 (fun φ5 => [(2, .int .u64 0)]) (fun φ5 => []) (fun φ5 => []) s trivial (fun φ5 => by kernel_rfl) ?_
  intro φ5 w5 s
  refine ops_done (by kernel_rfl) ?_
  refine wp_ret ?_
  refine ret_rule (C := []) [] [] (.int .u64 0) [] [] s trivial (by kernel_rfl) ?_
  exact ⟨_, _, _, rfl, s, rfl⟩

set_option maxHeartbeats 400000 in
theorem end_nil {I : IM} : Fun Try.prog 29 #[.pointer none] I (fun v J => v = .int .i64 2) := by
  refine enter_rule 20 [(0, .pointer none)] Try.func29 rfl (by kernel_rfl) ?_
  intro w s
  refine wp_seq ?_
  refine region_rule ?_
  refine ops_rule (C := []) [] [] 1 [] 0 (fun φ1 => [(2, .int .i64 0)]) (fun φ1 => []) (fun φ1 => []) s trivial (fun φ1 => by kernel_rfl) ?_
  intro φ1 w1 s
  refine ops_done (by kernel_rfl) ?_
  refine wp_seq ?_
  refine wp_seq ?_
  refine region_rule ?_
  refine ops_rule (C := []) [] [] 1 [] 0 (fun φ2 => [(3, .pointer none)]) (fun φ2 => []) (fun φ2 => []) s trivial (fun φ2 => by kernel_rfl) ?_
  intro φ2 w2 s
  refine call_rule (some 4) s (err_nil) (by kernel_rfl) ?_
  intro v3 I3 w3 le3 h3 s
  obtain rfl := h3
  refine ops_rule (C := []) [] [] 10 [] 0 (fun φ4 => [(14, .bool false), (13, undef), (12, undef), (11, undef), (10, undef), (9, undef), (8, undef), (7, undef), (6, .bool false), (5, .bool false)]) (fun φ4 => []) (fun φ4 => []) s trivial (fun φ4 => by kernel_rfl) ?_
  intro φ4 w4 s
  refine ops_done (by kernel_rfl) ?_
  refine cond_false_rule (b := false) (by kernel_rfl) rfl ?_
  refine wp_skip ?_
  refine wp_seq ?_
  refine region_rule ?_
  refine ops_rule (C := []) [] [] 1 [] 0 (fun φ5 => [(18, .pointer none)]) (fun φ5 => []) (fun φ5 => []) s trivial (fun φ5 => by kernel_rfl) ?_
  intro φ5 w5 s
  refine call_rule (some 19) s (err_nil) (by kernel_rfl) ?_
  intro v6 I6 w6 le6 h6 s
  obtain rfl := h6
  refine ops_rule (C := []) [] [] 1 [] 0 (fun φ7 => [(2, .int .i64 2)]) (fun φ7 => []) (fun φ7 => []) s trivial (fun φ7 => by kernel_rfl) ?_
  intro φ7 w7 s
  refine ops_done (by kernel_rfl) ?_
  refine wp_ret ?_
  refine ret_rule (C := []) [] [] (.int .i64 2) [] [] s trivial (by kernel_rfl) ?_
  exact ⟨_, _, _, rfl, s, rfl⟩

set_option maxHeartbeats 400000 in
theorem numW_nil {I : IM} {n : Nat} (hn : n < 18446744073709551616) : Fun Try.prog 18 #[.pointer none, .int .u64 ((n : Nat) : Int)] I (fun v J => v = .tuple #[]) := by
  refine enter_rule 23 [(0, .pointer none), (1, .int .u64 ((n : Nat) : Int))] Try.func18 rfl (by kernel_rfl) ?_
  intro w s
  refine wp_seq ?_
  refine region_rule ?_
  refine ops_rule (C := []) [] [] 1 [] 0 (fun φ1 => [(4, .int .i64 2)]) (fun φ1 => []) (fun φ1 => []) s trivial (fun φ1 => by kernel_rfl) ?_
  intro φ1 w1 s
  refine ops_done (by kernel_rfl) ?_
  refine wp_seq ?_
  refine wp_block ?_
  have hle2 := IM.Le.refl I
  refine loop_rule (fun (x : Nat × Nat) => [(0, .pointer none), (1, .int .u64 ((x.1 : Nat) : Int)), (4, .int .i64 ((x.2 : Nat) : Int))]) (fun (x : Nat × Nat) => []) (fun m (x : Nat × Nat) J => IM.Le I J ∧ x.2 + m = 64 ∧ x.1 < 18446744073709551616) (62) (n, 2) s (by kernel_rfl) List.Sublist.slnil ⟨IM.Le.refl _, rfl, hn⟩ ?_
  rintro m3 ⟨nn3, k3⟩ I3 w3 ev3 s ⟨le3, hi3_0, hi3_1⟩
  try dsimp only at s hi3_0 hi3_1 ⊢
  replace hle2 := leMono le3 hle2
  refine wp_seq ?_
  refine wp_seq ?_
  refine region_rule ?_
  refine ops_rule (C := []) [] [] 2 [] 0 (fun φ4 => [(6, .int .i64 ((k3 : Nat) : Int)), (5, .int .u64 ((nn3 : Nat) : Int))]) (fun φ4 => []) (fun φ4 => []) s trivial (fun φ4 => by kernel_rfl) ?_
  intro φ4 w4 s
  refine sem_rule (binOp .shr 27 (.int .u64 ((nn3 : Nat) : Int)) (.int .i64 ((k3 : Nat) : Int))) (some 7) (.int .u64 ((nn3 / 2 ^ k3 : Nat) : Int)) (by kernel_rfl) (run_shrU (by show _ < 18446744073709551616; have hn0 := hi3_0; have hn2 := hi3_1;  omega)) ?_
  refine ops_rule (C := []) [] [] 1 [] 0 (fun φ5 => [(8, .bool (((nn3 / 2 ^ k3 : Nat) : Int) != ((0 : Nat) : Int)))]) (fun φ5 => []) (fun φ5 => []) s trivial (fun φ5 => by kernel_rfl) ?_
  intro φ5 w5 s
  rw [nat_neq (a := (nn3 / 2 ^ k3)) (b := 0)]
  refine ops_done (by kernel_rfl) ?_
  rcases Bool.eq_false_or_eq_true (decide ((nn3 / 2 ^ k3) ≠ 0)) with hc6 | hc6
  ·
    rw [hc6]
    refine cond_true_rule (b := true) (by kernel_rfl) rfl ?_
    refine wp_skip ?_
    refine wp_block ?_
    refine wp_seq ?_
    refine region_rule ?_
    refine ops_rule (C := []) [] [] 1 [] 0 (fun φ7 => [(9, .pointer none)]) (fun φ7 => []) (fun φ7 => []) s trivial (fun φ7 => by kernel_rfl) ?_
    intro φ7 w7 s
    refine call_rule (some 10) s (put_nil (n := 1) (k := 1)) (by kernel_rfl) ?_
    intro v8 I8 w8 le8 h8 s
    replace hle2 := leMono le8 hle2
    obtain rfl := h8
    refine ops_done (by kernel_rfl) ?_
    refine wp_seq ?_
    refine region_rule ?_
    refine ops_rule (C := []) [] [] 2 [] 0 (fun φ9 => [(12, .int .i64 ((k3 : Nat) : Int)), (11, .int .u64 ((nn3 : Nat) : Int))]) (fun φ9 => []) (fun φ9 => []) s trivial (fun φ9 => by kernel_rfl) ?_
    intro φ9 w9 s
    refine sem_rule (binOp .shl 27 (.int .u64 1) (.int .i64 ((k3 : Nat) : Int))) (some 13) (.int .u64 ((2 ^ k3 : Nat) : Int)) (by kernel_rfl) (run_shl1 (klt hi3_1 (of_decide_eq_true hc6) (by have := hi3_0; omega))) ?_
    refine ops_rule (C := []) [] [] 2 [] 0 (fun φ10 => [(1, .int .u64 (IntKind.wrap .u64 (((nn3 : Nat) : Int) - ((2 ^ k3 : Nat) : Int)))), (14, .int .u64 (IntKind.wrap .u64 (((nn3 : Nat) : Int) - ((2 ^ k3 : Nat) : Int))))]) (fun φ10 => []) (fun φ10 => []) s trivial (fun φ10 => by kernel_rfl) ?_
    intro φ10 w10 s
    rw [nat_subU (a := nn3) (b := (2 ^ k3)) (by have := pow_le_of_div (of_decide_eq_true hc6); have := hi3_1; omega) (by have := pow_le_of_div (of_decide_eq_true hc6); have := hi3_1; omega)]
    refine ops_done (by kernel_rfl) ?_
    refine region_rule ?_
    refine ops_rule (C := []) [] [] 3 [] 0 (fun φ11 => [(4, .int .i64 (IntKind.wrap .i64 (((k3 : Nat) : Int) + ((1 : Nat) : Int)))), (16, .int .i64 (IntKind.wrap .i64 (((k3 : Nat) : Int) + ((1 : Nat) : Int)))), (15, .int .i64 ((k3 : Nat) : Int))]) (fun φ11 => []) (fun φ11 => []) s trivial (fun φ11 => by kernel_rfl) ?_
    intro φ11 w11 s
    rw [nat_addI (a := k3) (b := 1) (by have hn0 := hi3_0; have hn2 := hi3_1; have hq0 := of_decide_eq_true hc6; omega)]
    refine ops_done (by kernel_rfl) ?_
    have hk9 : k3 < 64 := klt hi3_1 (of_decide_eq_true hc6) (by have := hi3_0; omega)
    exact ⟨⟨m3 - 1, (nn3 - 2 ^ k3, k3 + 1), _, _, _, by omega, rfl, s, List.Sublist.slnil, by kernel_rfl, hle2, by show k3 + 1 + (m3 - 1) = 64; omega, Nat.lt_of_le_of_lt (Nat.sub_le _ _) hi3_1⟩⟩
  ·
    rw [hc6]
    refine cond_false_rule (b := false) (by kernel_rfl) rfl ?_
    refine wp_exit ?_
    refine wp_seq ?_
    refine region_rule ?_
    refine ops_rule (C := []) [] [] 1 [] 0 (fun φ12 => [(17, .pointer none)]) (fun φ12 => []) (fun φ12 => []) s trivial (fun φ12 => by kernel_rfl) ?_
    intro φ12 w12 s
    refine call_rule (some 18) s (put_nil (n := 0) (k := 1)) (by kernel_rfl) ?_
    intro v13 I13 w13 le13 h13 s
    replace hle2 := leMono le13 hle2
    obtain rfl := h13
    refine ops_done (by kernel_rfl) ?_
    refine region_rule ?_
    refine ops_rule (C := []) [] [] 3 [] 0 (fun φ14 => [(21, .int .i64 ((k3 : Nat) : Int)), (20, .int .u64 ((nn3 : Nat) : Int)), (19, .pointer none)]) (fun φ14 => []) (fun φ14 => []) s trivial (fun φ14 => by kernel_rfl) ?_
    intro φ14 w14 s
    refine call_rule (some 22) s (put_nil (n := nn3) (k := k3)) (by kernel_rfl) ?_
    intro v15 I15 w15 le15 h15 s
    replace hle2 := leMono le15 hle2
    obtain rfl := h15
    refine ops_done (by kernel_rfl) ?_
    refine end_rule (C := []) [] [] (.tuple #[]) [] [] s trivial (by kernel_rfl) ?_
    exact ⟨_, _, _, rfl, s, rfl⟩

end Go.Proofs.Ytpnlaeapnokipaa
