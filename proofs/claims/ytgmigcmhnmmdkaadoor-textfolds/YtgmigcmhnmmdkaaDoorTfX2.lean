/- Signs are counted and looked at: the document's; the program's Runes. -/
import Derived.Test.YtgmigcmhnmmdkaaDoorTfT2
set_option linter.all false
set_option maxRecDepth 100000
namespace Go.Proofs.YtgmigcmhnmmdkaaDoor
open Go.RowKit Go.Sep
attribute [local irreducible] Go.wpList Go.Code.wp

set_option maxHeartbeats 1000000 in
theorem few_c {I : IM} {l : List UInt8} (hn : l.length ≤ 9223372036854775807) : Fun Tryd.prog 22 #[.string ⟨(l).toArray⟩] I (fun v J => v = .string ⟨(l.take 120).toArray⟩) := by
  refine enter_rule 8 [(0, .string ⟨(l).toArray⟩)] Tryd.func22 rfl (by kernel_rfl) ?_
  intro w s
  refine wp_seq ?_
  refine region_rule ?_
  refine ops_rule (C := []) [] [] 1 [] 0 (fun φ1 => [(2, .string ⟨#[]⟩)]) (fun φ1 => []) (fun φ1 => []) s trivial (fun φ1 => by kernel_rfl) ?_
  intro φ1 w1 s
  refine ops_done (by kernel_rfl) ?_
  refine wp_seq ?_
  refine region_rule ?_
  refine ops_rule (C := []) [] [] 4 [] 0 (fun φ2 => [(6, .int .i64 (if ((120 : Nat) : Int) < ((l.length : Nat) : Int) then ((120 : Nat) : Int) else ((l.length : Nat) : Int))), (5, .int .i64 ((l.length : Nat) : Int)), (4, .string ⟨(l).toArray⟩), (3, .string ⟨(l).toArray⟩)]) (fun φ2 => []) (fun φ2 => []) s trivial (fun φ2 => by kernel_rfl) ?_
  intro φ2 w2 s
  rw [nat_min (a := l.length) (b := 120)]
  refine sem_rule (Instr.sliceAt 9 (.string ⟨(l).toArray⟩) none (some (.int .i64 ((min l.length 120 : Nat) : Int))) none) (some 7) (.string ⟨((l.take (min l.length 120))).toArray⟩) (by kernel_rfl) (run_takeS (s := l) (hi := min l.length 120) (by   (try simp only [List.length_drop, List.length_take, List.length_append, List.length_cons, List.length_nil]); omega)) ?_
  refine ops_rule (C := []) [] [] 1 [] 0 (fun φ3 => [(2, .string ⟨((l.take (min l.length 120))).toArray⟩)]) (fun φ3 => []) (fun φ3 => []) s trivial (fun φ3 => by kernel_rfl) ?_
  intro φ3 w3 s
  refine ops_done (by kernel_rfl) ?_
  refine wp_ret ?_
  refine ret_rule (C := []) [] [] (.string ⟨((l.take (min l.length 120))).toArray⟩) [] [] s trivial (by kernel_rfl) ?_
  exact ⟨_, _, _, rfl, s, (congrArg (fun q : List UInt8 => Value.string ⟨q.toArray⟩) take_min)⟩

theorem ck_long {l : List UInt8} {mi : Int} (h : ((l.length : Int) > mi)) : Value.int .i64 9 = .int .i64 ((ckE l mi : Nat) : Int) := by
  unfold ckE; rw [decide_eq_true h]; rfl
theorem ck_bad {l : List UInt8} {mi : Int} (h : ¬ ((l.length : Int) > mi)) (e : okS l = false) : Value.int .i64 7 = .int .i64 ((ckE l mi : Nat) : Int) := by
  unfold ckE; rw [decide_eq_false h, e]; rfl
theorem ck_good {l : List UInt8} {mi : Int} (h : ¬ ((l.length : Int) > mi)) (e : okS l = true) : Value.int .i64 0 = .int .i64 ((ckE l mi : Nat) : Int) := by
  unfold ckE; rw [decide_eq_false h, e]; rfl

end Go.Proofs.YtgmigcmhnmmdkaaDoor
