/- made: a stamp of bytes, the program's and the document's. -/
import Derived.Test.YtgmigcmhnmmdkaaCoP13
set_option linter.all false
set_option maxRecDepth 100000
namespace Go.Proofs.Ytgmigcmhnmmdkaa.Ev
open Go.RowKit Go.Sep

theorem bsl_take {I : IM} {p : List UInt8} {a : Option Addr} {cap : Nat} (h : BSl I p (.slice a p.length cap)) : BSl I (p.take 60) (.slice a (min p.length 60) cap) := by
  obtain ⟨a', cap', hv, hc, hr⟩ := h
  cases hv
  refine ⟨a, cap, by rw [List.length_take, Nat.min_comm], by rw [List.length_take]; omega, fun j x hj => ?_⟩
  rw [List.getElem?_take] at hj
  split at hj
  · exact hr j x hj
  · cases hj
theorem map_add_zero (a : Option Addr) : a.map (·.add 0) = a := by cases a <;> rfl
theorem run_to {w : World} {a : Option Addr} {n h cap : Nat} (h1 : h ≤ cap) : (Instr.sliceAt 22 (.slice a n cap) none (some (.int .i64 ((h : Nat) : Int))) none).run Try.prog w = .ok (.slice a h cap) w := by
  have hb : (Instr.sliceBound (.int .i64 ((h : Nat) : Int)) cap .sliceAcap).run Try.prog w = .ok h w := run_bound h1
  simp [Instr.sliceAt, Instr.slice, run_underlying under22, Instr.sliceBounds, hb, size5]
  intro _
  exact map_add_zero a

set_option maxHeartbeats 2000000 in
theorem made_c {I : IM} {p q : List UInt8} {vp vq : Value} (hp : BSl I p vp) (hq : BSl I q vq) : Fun Try.prog 7 #[vp, vq] I (fun v J => ∃ ib ip eb ep ki ke i e, v = .tuple #[stv ib ip eb ep, .agg #[.pointer (some ⟨ki, 0, none⟩), .pointer (some ⟨ke, 0, none⟩)]] ∧ (i.nf ∧ i.depth ≤ 7) ∧ (e.nf ∧ e.depth ≤ 7 ∧ e.top ≤ 7 + 3 * 7) ∧ TRep J i ib ip ∧ ERep J e eb ep ∧ RT J i ki ∧ RE J e ke) := by
  have hp' := hp
  have hq' := hq
  obtain ⟨pa, pc, rfl, hpc, -⟩ := hp
  obtain ⟨qa, qc, rfl, hqc, -⟩ := hq
  have hp60 := bsl_take hp'
  have hq60 := bsl_take hq'
  clear hp' hq'
  refine enter_rule 36 [(0, .slice pa p.length pc), (1, .slice qa q.length qc)] Try.func7 rfl (by kernel_rfl) ?_
  intro w s
  refine wp_seq ?_
  refine region_rule ?_
  refine ops_rule (C := []) [] [] 2 [] 2 (fun φ1 => [(5, .pointer (some ⟨(φ1 1), 0, none⟩)), (4, .pointer (some ⟨(φ1 0), 0, none⟩))]) (fun φ1 => [((φ1 0), .cells #[.bool false, .pointer none, .int .u64 0, .pointer none] 32), ((φ1 1), .cells #[.pointer none, .pointer none] 36)]) (fun φ1 => []) s trivial (fun φ1 => by kernel_rfl) ?_
  intro φ1 w1 s
  refine ops_done (by kernel_rfl) ?_
  refine wp_seq ?_
  refine region_rule ?_
  refine ops_rule (C := []) [((φ1 0), .cells #[.bool false, .pointer none, .int .u64 0, .pointer none] 32), ((φ1 1), .cells #[.pointer none, .pointer none] 36)] [] 4 [] 0 (fun φ2 => [(14, .int .i64 (if ((60 : Nat) : Int) < ((p.length : Nat) : Int) then ((60 : Nat) : Int) else ((p.length : Nat) : Int))), (13, .int .i64 ((p.length : Nat) : Int)), (12, .slice pa p.length pc), (11, .slice pa p.length pc)]) (fun φ2 => [((φ1 0), .cells #[.bool false, .pointer none, .int .u64 0, .pointer none] 32), ((φ1 1), .cells #[.pointer none, .pointer none] 36)]) (fun φ2 => []) s trivial (fun φ2 => by kernel_rfl) ?_
  intro φ2 w2 s
  rw [nat_min (a := p.length) (b := 60)]
  refine sem_rule (Instr.sliceAt 22 (.slice pa p.length pc) none (some (.int .i64 ((min p.length 60 : Nat) : Int))) none) (some 15) (.slice pa (min p.length 60) pc) (by kernel_rfl) (run_to (by have := hpc; omega)) ?_
  refine call_rule (some 16) s (make_c 7 (by omega) hp60) (by kernel_rfl) ?_
  intro v3 I3 w3 le3 h3 s
  replace hp60 := BSl.mono le3 hp60
  replace hq60 := BSl.mono le3 hq60
  obtain ⟨k3, v3, t3, l3, rfl, h3_0, h3_1, h3_2⟩ := h3
  refine ops_rule (C := []) [((φ1 0), .cells #[.bool false, .pointer none, .int .u64 0, .pointer none] 32), ((φ1 1), .cells #[.pointer none, .pointer none] 36)] [] 5 [] 0 (fun φ4 => [(7, v3), (6, .pointer (some ⟨k3, 0, none⟩)), (18, v3), (17, .pointer (some ⟨k3, 0, none⟩)), (10, .tuple #[.pointer (some ⟨k3, 0, none⟩), v3])]) (fun φ4 => [((φ1 0), .cells #[.bool false, .pointer none, .int .u64 0, .pointer none] 32), ((φ1 1), .cells #[.pointer none, .pointer none] 36)]) (fun φ4 => []) s trivial (fun φ4 => by kernel_rfl) ?_
  intro φ4 w4 s
  refine ops_done (by kernel_rfl) ?_
  refine wp_seq ?_
  refine region_rule ?_
  refine ops_rule (C := []) [((φ1 0), .cells #[.bool false, .pointer none, .int .u64 0, .pointer none] 32), ((φ1 1), .cells #[.pointer none, .pointer none] 36)] [] 4 [] 0 (fun φ5 => [(23, .int .i64 (if ((60 : Nat) : Int) < ((q.length : Nat) : Int) then ((60 : Nat) : Int) else ((q.length : Nat) : Int))), (22, .int .i64 ((q.length : Nat) : Int)), (21, .slice qa q.length qc), (20, .slice qa q.length qc)]) (fun φ5 => [((φ1 0), .cells #[.bool false, .pointer none, .int .u64 0, .pointer none] 32), ((φ1 1), .cells #[.pointer none, .pointer none] 36)]) (fun φ5 => []) s trivial (fun φ5 => by kernel_rfl) ?_
  intro φ5 w5 s
  rw [nat_min (a := q.length) (b := 60)]
  refine sem_rule (Instr.sliceAt 22 (.slice qa q.length qc) none (some (.int .i64 ((min q.length 60 : Nat) : Int))) none) (some 24) (.slice qa (min q.length 60) qc) (by kernel_rfl) (run_to (by have := hqc; omega)) ?_
  refine call_rule (some 25) s (makeE_c 7 (by omega) hq60) (by kernel_rfl) ?_
  intro v6 I6 w6 le6 h6 s
  replace hp60 := BSl.mono le6 hp60
  replace hq60 := BSl.mono le6 hq60
  replace h3_1 := RT.mono le6 h3_1
  replace h3_2 := BSl.mono le6 h3_2
  obtain ⟨k6, v6, t6, l6, rfl, h6_0, h6_1, h6_2⟩ := h6
  refine ops_rule (C := []) [((φ1 0), .cells #[.bool false, .pointer none, .int .u64 0, .pointer none] 32), ((φ1 1), .cells #[.pointer none, .pointer none] 36)] [] 5 [] 0 (fun φ7 => [(9, v6), (8, .pointer (some ⟨k6, 0, none⟩)), (27, v6), (26, .pointer (some ⟨k6, 0, none⟩)), (19, .tuple #[.pointer (some ⟨k6, 0, none⟩), v6])]) (fun φ7 => [((φ1 0), .cells #[.bool false, .pointer none, .int .u64 0, .pointer none] 32), ((φ1 1), .cells #[.pointer none, .pointer none] 36)]) (fun φ7 => []) s trivial (fun φ7 => by kernel_rfl) ?_
  intro φ7 w7 s
  refine ops_done (by kernel_rfl) ?_
  refine wp_seq ?_
  refine region_rule ?_
  refine ops_rule (C := []) [((φ1 0), .cells #[.bool false, .pointer none, .int .u64 0, .pointer none] 32), ((φ1 1), .cells #[.pointer none, .pointer none] 36)] [] 1 [] 0 (fun φ8 => [(28, .pointer (some ⟨k3, 0, none⟩))]) (fun φ8 => [((φ1 0), .cells #[.bool false, .pointer none, .int .u64 0, .pointer none] 32), ((φ1 1), .cells #[.pointer none, .pointer none] 36)]) (fun φ8 => []) s trivial (fun φ8 => by kernel_rfl) ?_
  intro φ8 w8 s
  refine call_rule (some 29) s (own_c t3 h3_0.1 (by have := h3_0.2; omega) h3_1) (by kernel_rfl) ?_
  intro v9 I9 w9 le9 h9 s
  replace hp60 := BSl.mono le9 hp60
  replace hq60 := BSl.mono le9 hq60
  replace h3_1 := RT.mono le9 h3_1
  replace h3_2 := BSl.mono le9 h3_2
  replace h6_1 := RE.mono le9 h6_1
  replace h6_2 := BSl.mono le9 h6_2
  obtain ⟨b9, p9, rfl, h9_0⟩ := h9
  refine ops_rule (C := []) [((φ1 0), .cells #[.bool false, .pointer none, .int .u64 0, .pointer none] 32), ((φ1 1), .cells #[.pointer none, .pointer none] 36)] [] 1 [] 0 (fun φ10 => [(30, .pointer (some ⟨k6, 0, none⟩))]) (fun φ10 => [((φ1 0), .cells #[.bool false, .pointer none, .int .u64 0, .pointer none] 32), ((φ1 1), .cells #[.pointer none, .pointer none] 36)]) (fun φ10 => []) s trivial (fun φ10 => by kernel_rfl) ?_
  intro φ10 w10 s
  refine call_rule (some 31) s (tree_c t6 h6_0.1 (by have := h6_0.2.2; omega) (by have := h6_0.2.1; omega) h6_1) (by kernel_rfl) ?_
  intro v11 I11 w11 le11 h11 s
  replace hp60 := BSl.mono le11 hp60
  replace hq60 := BSl.mono le11 hq60
  replace h3_1 := RT.mono le11 h3_1
  replace h3_2 := BSl.mono le11 h3_2
  replace h6_1 := RE.mono le11 h6_1
  replace h6_2 := BSl.mono le11 h6_2
  replace h9_0 := TRep.mono le11 h9_0
  obtain ⟨b11, p11, rfl, h11_0⟩ := h11
  refine ops_rule (C := []) [((φ1 0), .cells #[.bool false, .pointer none, .int .u64 0, .pointer none] 32), ((φ1 1), .cells #[.pointer none, .pointer none] 36)] [] 6 [.o 0, .o 0, .o 0, .o 0, .o 1, .o 1] 0 (fun φ12 => [(35, .agg #[.pointer (some ⟨k3, 0, none⟩), .pointer (some ⟨k6, 0, none⟩)]), (34, .pointer (some ⟨k6, 0, none⟩)), (33, .pointer (some ⟨k3, 0, none⟩)), (32, .agg #[.bool b9, .pointer p9, .int .u64 ((b11 : Nat) : Int), .pointer p11])]) (fun φ12 => [((φ1 0), .cells #[.bool b9, .pointer p9, .int .u64 ((b11 : Nat) : Int), .pointer p11] 32), ((φ1 1), .cells #[.pointer (some ⟨k3, 0, none⟩), .pointer (some ⟨k6, 0, none⟩)] 36)]) (fun φ12 => [(φ1 0), (φ1 0), (φ1 0), (φ1 0), (φ1 1), (φ1 1)]) s trivial (fun φ12 => by kernel_rfl) ?_
  intro φ12 w12 s
  refine ops_done (by kernel_rfl) ?_
  refine wp_ret ?_
  refine ret_rule (C := []) [((φ1 0), .cells #[.bool b9, .pointer p9, .int .u64 ((b11 : Nat) : Int), .pointer p11] 32), ((φ1 1), .cells #[.pointer (some ⟨k3, 0, none⟩), .pointer (some ⟨k6, 0, none⟩)] 36)] [] (.tuple #[.agg #[.bool b9, .pointer p9, .int .u64 ((b11 : Nat) : Int), .pointer p11], .agg #[.pointer (some ⟨k3, 0, none⟩), .pointer (some ⟨k6, 0, none⟩)]]) [.o 0, .o 0, .o 0, .o 0, .o 1, .o 1] [(φ1 0), (φ1 0), (φ1 0), (φ1 0), (φ1 1), (φ1 1)] s trivial (by kernel_rfl) ?_
  exact ⟨_, _, _, rfl, s, ⟨_, _, _, _, _, _, t3, t6, rfl, h3_0, h6_0, h9_0, h11_0, h3_1, h6_1⟩⟩

end Go.Proofs.Ytgmigcmhnmmdkaa.Ev

